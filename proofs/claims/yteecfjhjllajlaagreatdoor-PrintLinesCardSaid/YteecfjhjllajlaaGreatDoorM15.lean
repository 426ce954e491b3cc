/- PROVED here: parts Xm Xn Xo of the claim. No condition but those in each theorem's own head. -/
import Derived.Test.YteecfjhjllajlaaGreatDoorM14
namespace Go.Proofs.YteecfjhjllajlaaGreatDoor
section
set_option maxHeartbeats 2500000
set_option maxRecDepth 100000
open Go Go.RowKit
open Tr (Bx heap1 bt Nds Ints)
theorem ln_8 {w0:World}{A:Option Addr}{l:List Tr.Nd}{n c b f:Nat}(hx:Px0 w0 A l n)(hr:RecE w0 A l n c b f)(d:Int)(p k j:Nat)(t:List UInt8)(w:World)(hp:p<n)(hk:(ndA l p).kd=8)(hks:(ndA l p).ks=[(k:Int),(j:Int)])(hkf:k<f)(hkn:k<n)(hke:Tr.expB (ndA l k).kd=true)(hjf:j<f)(hjn:j<n)(hje:Tr.expB (ndA l j).kd=true)
  (hb:Below w0.heap.size w0 w) (h:Pg w0.heap.size b t w) (hl:t.length+(lnT l f p).length≤140737488355328):Calls Tryz.prog 72 #[PV A n c b d,.int .i64 (p:Int)] w (WrPost w0.heap.size b (t++lnT l f p) (.tuple #[]) w):=by
 have hpl:p<l.length:=by rw[← hx.len];exact hp
 have hkid:kidA l p 0=(k:Int):=by unfold kidA;rw[hks];rfl
 have hjid:kidA l p 1=(j:Int):=by unfold kidA;rw[hks];rfl
 have hex:lnT l f p=((ndA l p).tx.data.toList++[91]++exT l f k++[93])++[32,61,32]++exT l f j:=by simp[lnT,hk,hkid,hjid,txA]
 rw[hex]at hl ⊢
 clear hex hkid hjid
 obtain⟨bA,off,K,cK,rfl,hlt,c0,c1,c2,c3,c4,z5⟩:=node_at hx.nds hb p hpl
 rw[← ndA_eq hpl]at c0 c1 c2 c3 c4 z5
 rw[hk]at c0
 rw[hks]at c4 z5
 have c4:w.cell? ⟨bA,off+p*5+4,none⟩=some (.slice K 2 cK):=c4
 have hpz:(p:Int)<(n:Int):=by omega
 obtain⟨bk,ok,rfl,hbk,hck0⟩:=z5 (by simp)
 have hck:w0.cell? ⟨bk,ok,none⟩=some (.int .i64 (k:Int)):=hck0 0 (by simp)
 have hcj:w0.cell? ⟨bk,ok+1,none⟩=some (.int .i64 (j:Int)):=hck0 1 (by simp)
 have H:=Lib.hid h
 have HB:=Lib.hid hb
 have hbw:=h.bw
 have hbl:=h.lt
 have HE:=Lib.hid (fun w' (q:Below w0.heap.size w0 w') (h':Pg w0.heap.size b t w') (hl':t.length+((ndA l p).tx.data.toList++[91]++exT l f k++[93]).length≤140737488355328)=>element_pg hr d 8 (ndA l p).n (ndA l p).pl (ndA l p).tx bk ok 2 cK k t w' hkf hkn hke q h' (by decide) hbk hck hl')
 have HO:=Lib.hid (fun t' w' (q:Below w0.heap.size w0 w') (h':Pg w0.heap.size b t' w') (hl':t'.length+(exT l f j).length≤140737488355328)=>hr j d t' w' hjf hjn hje q h' hl')
 unfold PV at HO HE
 unfold PV
 clear hck0 hks
 generalize ((ndA l p).tx.data.toList++[91]++exT l f (k:Int)++[93])=y at *
 generalize exT l f (j:Int)=y2 at *
 have HL:=Lib.hid hl
 generalize (ndA l p).n=nn at *
 generalize (ndA l p).pl=pl at *
 generalize (ndA l p).tx=tx at *
 have HX1:=Lib.hid (show SP w.heap.size (w.heap.size+1) [.slice (some ⟨bA,off,none⟩) n c,.func (.func 117) #[.pointer (some ⟨b,0,none⟩)] #[],.int .i64 d] [.int .i64 8,.int .i64 nn,.int .i64 pl,.string tx,.slice (some ⟨bk,ok,none⟩) 2 cK] bk (ok+1) (j:Int) ((w.alloc (.cells #[.slice (some ⟨bA,off,none⟩) n c,.func (.func 117) #[.pointer (some ⟨b,0,none⟩)] #[],.int .i64 d] 73)).alloc (.cells #[.int .i64 8,.int .i64 nn,.int .i64 pl,.string tx,.slice (some ⟨bk,ok,none⟩) 2 cK] 37)) by
  have b1:=Bx.new w 73 [.slice (some ⟨bA,off,none⟩) n c,.func (.func 117) #[.pointer (some ⟨b,0,none⟩)] #[],.int .i64 d]
  have b2:=Bx.new (w.alloc (.cells #[.slice (some ⟨bA,off,none⟩) n c,.func (.func 117) #[.pointer (some ⟨b,0,none⟩)] #[],.int .i64 d] 73)) 37 [.int .i64 8,.int .i64 nn,.int .i64 pl,.string tx,.slice (some ⟨bk,ok,none⟩) 2 cK]
  have b3:=b1.alloc (.cells #[.int .i64 8,.int .i64 nn,.int .i64 pl,.string tx,.slice (some ⟨bk,ok,none⟩) 2 cK] 37)
  rw[World.size_alloc]at b2
  refine⟨b3,b2,?_⟩
  have hb2:Below w0.heap.size w0 ((w.alloc (.cells #[.slice (some ⟨bA,off,none⟩) n c,.func (.func 117) #[.pointer (some ⟨b,0,none⟩)] #[],.int .i64 d] 73)).alloc (.cells #[.int .i64 8,.int .i64 nn,.int .i64 pl,.string tx,.slice (some ⟨bk,ok,none⟩) 2 cK] 37)):=(HB.out.alloc hbw _).alloc (by rw[World.size_alloc];omega) _
  exact(hb2.cell (p:=⟨bk,ok+1,none⟩) hbk).trans hcj)
 have HW1:=Lib.hid (((Kp.refl w0.heap.size b w).alloc hbw (.cells #[.slice (some ⟨bA,off,none⟩) n c,.func (.func 117) #[.pointer (some ⟨b,0,none⟩)] #[],.int .i64 d] 73)).alloc (by rw[World.size_alloc];omega) (.cells #[.int .i64 8,.int .i64 nn,.int .i64 pl,.string tx,.slice (some ⟨bk,ok,none⟩) 2 cK] 37))
 clear hk hr hx hb h hl hpl hke hck hje hcj hkf hkn hjf hjn
 go_enter Tryz.func72,Tryz.ntmps72
 go_wp2_with (go_at_call 125;refine(HE.out _ ((HB.out.alloc hbw _).alloc (by rw[World.size_alloc];omega) _) ((H.out.alloc _).alloc _) (by have:=HL.out;simp only[List.length_append]at this;omega)).mono ?_)
 rintro e w1 ⟨rfl,hp1,hk1⟩
 have hx2:=HX1.out.kp hk1 (by omega) (by omega) hbk
 have HS2:=Lib.hid hx2
 have HP2:=Lib.hid hp1
 have HW2:=Lib.hid (HW1.out.trans hk1)
 have e1:=(hx2.1.cell 1).trans rfl
 clear HX1 HW1 hp1 hk1 hx2
 go_wp2_with (go_at_call 117;refine(write_new w0.heap.size b _ [[32,61,32]] _ HP2.out (by have:=HL.out;simp only[List.length_append,List.length_cons,List.length_nil,List.flatten_cons,List.flatten_nil]at this ⊢;omega) (by simp) 1 rfl _ (by rfl) _ rfl).mono ?_)
 rintro e w2 ⟨rfl,hp1,hk1⟩
 have HS3:=Lib.hid (HS2.out.kp hk1 (by omega) (by omega) hbk)
 have HP3:=Lib.hid hp1
 have HW3:=Lib.hid (HW2.out.trans hk1)
 clear HS2 HP2 HW2 hp1 hk1 e1
 go_upto_region 9 with(fail)
 obtain⟨W5,hW5⟩:∃W5:World,{ w2 with drawn:=w2.drawn+1 }=W5:=⟨_,rfl⟩
 have hkd:Kp w0.heap.size b w2 W5:=by rw[← hW5];exact⟨Below.drew (Below.refl _ _),(Lib.OthersKept.refl _ _ w2).drew⟩
 have hS:SP w.heap.size (w.heap.size+1) [.slice (some ⟨bA,off,none⟩) n c,.func (.func 117) #[.pointer (some ⟨b,0,none⟩)] #[],.int .i64 d] [.int .i64 8,.int .i64 nn,.int .i64 pl,.string tx,.slice (some ⟨bk,ok,none⟩) 2 cK] bk (ok+1) (j:Int) W5:=HS3.out.kp hkd (by omega) (by omega) hbk
 have hP5:Pg w0.heap.size b (t++y++([[32,61,32]]:List (List UInt8)).flatten) W5:=by rw[← hW5];exact HP3.out
 have hw5:=HW3.out.trans hkd
 refine wp_region_held (S:=SP w.heap.size (w.heap.size+1) [.slice (some ⟨bA,off,none⟩) n c,.func (.func 117) #[.pointer (some ⟨b,0,none⟩)] #[],.int .i64 d] [.int .i64 8,.int .i64 nn,.int .i64 pl,.string tx,.slice (some ⟨bk,ok,none⟩) 2 cK] bk (ok+1) (j:Int)) (by kernel_rfl) ?_
 rw[hW5]
 clear hW5
 refine hpu 0 (.agg #[.slice (some ⟨bA,off,none⟩) n c,.func (.func 117) #[.pointer (some ⟨b,0,none⟩)] #[],.int .i64 d]) (by kernel_rfl) rfl rfl (fun _ _ _ h=>h) rfl (y_load rfl rfl (fun w' q=>run_load73 ((q.1.cell 0).trans rfl) ((q.1.cell 1).trans rfl) ((q.1.cell 2).trans rfl))) hS ?_
 simp only[ap]
 refine hpu 1 (.pointer (some ⟨w.heap.size+1,4,none⟩)) (by kernel_rfl) rfl rfl (fun _ _ _ h=>h) rfl (y_field rfl rfl (run_field37_4 _)) hS ?_
 simp only[ap]
 refine hpu 2 (.slice (some ⟨bk,ok,none⟩) 2 cK) (by kernel_rfl) rfl rfl (fun _ _ _ h=>h) rfl (y_load rfl rfl (fun w' q=>run_load35x ((q.2.1.cell 4).trans rfl))) hS ?_
 simp only[ap]
 refine hpu 3 (.pointer (some ⟨bk,ok+1,none⟩)) (by kernel_rfl) rfl rfl (fun _ _ _ h=>h) rfl (y_index rfl rfl rfl (fun w=>run_index35 bk ok 2 cK 1 (by decide) w)) hS ?_
 simp only[ap]
 refine hpu 4 (.int .i64 (j:Int)) (by kernel_rfl) rfl rfl (fun _ _ _ h=>h) rfl (y_load rfl rfl (fun w' q=>run_load3 q.2.2)) hS ?_
 simp only[ap]
 refine h_callx 5 ({ dst:=some 40,op:=Op.call { callee:=Callee.value (Operand.func 66),args := #[Operand.tmp 35,Operand.tmp 39],argTypes := #[73,3] },type:=0,pos := "printer.go:136",after := #[{ on:=0,ground:=Ground.data },{ on:=4,ground:=Ground.data }],guard:=none }:Oper) (args := #[.agg #[.slice (some ⟨bA,off,none⟩) n c,.func (.func 117) #[.pointer (some ⟨b,0,none⟩)] #[],.int .i64 d],.int .i64 (j:Int)]) own66x rfl rfl (by kernel_rfl) rfl rfl (HO.out _ _ (Kp.w0 HB.out hw5) hP5 (by have:=HL.out;simp only[List.length_append,List.length_cons,List.length_nil,List.flatten_cons,List.flatten_nil]at this ⊢;omega)) ?_
 rintro e w3 ⟨rfl,hp2,hk2⟩
 have hS2:=hS.kp hk2 (by omega) (by omega) hbk
 refine .inr ⟨_,rfl,hS2,?_⟩
 simp only[ap]
 refine wpAnyH_done (by kernel_rfl) ?_ _
 have HP4:=Lib.hid hp2
 have HW4:=Lib.hid (hw5.trans hk2)
 clear hS hP5 hw5 hkd HS3 HP3 HW3 hp2 hk2 hS2
 go_wp2
 go_end0
 exact⟨rfl,by simpa using HP4.out,HW4.out⟩
end
section
set_option maxHeartbeats 2500000
set_option maxRecDepth 100000
open Go Go.RowKit
open Tr (Bx heap1 bt Nds Ints)
theorem run_field73_0 (b:Nat)(w:World):(Instr.fieldAt 73 (.pointer (some ⟨b,0,none⟩)) 0).run Tryz.prog w = .ok (.pointer (some ⟨b,0,none⟩)) w:=by kernel_rfl
theorem run_field37_3o (b o:Nat)(w:World):(Instr.fieldAt 37 (.pointer (some ⟨b,o,none⟩)) 3).run Tryz.prog w = .ok (.pointer (some ⟨b,o+3,none⟩)) w:=by kernel_rfl
theorem run_load23o {w:World}{b o n c:Nat}{A:Option Addr}(h:w.cell? ⟨b,o,none⟩=some (.slice A n c)):(Instr.loadAt 23 (.pointer (some ⟨b,o,none⟩))).run Tryz.prog w = .ok (.slice A n c) w:=by simp[go_sem,h]
theorem run_index23 (b o n c i:Nat)(hi:i<n)(w:World):(Instr.indexAt 23 (.slice (some ⟨b,o,none⟩) n c) (.int .i64 (i:Int))).run Tryz.prog w = .ok (.pointer (some ⟨b,o+i*5,none⟩)) w:=by
 have h:(i:Int)<(n:Int):=by omega
 simp[go_sem,Tryz.underlying23,h,Addr.add]
section
variable {ops:Array Oper} {Q:Exit→Act→World→Prop} {a:Act} {w:World} {o:Oper}
theorem slice40t {K:Act→World→Prop}{x y z:Operand}{s u v:ByteArray}(ho:o.op = .buildSlice 40 3 #[(0,x),(1,y),(2,z)])(hx:a.eval x = .string s)(hy:a.eval y = .string u)(hz:a.eval z = .string v)
  (h:K (a.put o.dst (.slice (some ⟨w.heap.size,0,none⟩) 3 3)) (w.alloc (.cells #[.string s,.string u,.string v] 9))):o.wp Tryz.prog a w K Q:=by
 unfold Oper.wp execOp
 simp only[ho,List.map_toArray,List.map_cons,List.map_nil,hx,hy,hz]
 simp[go_sem]
 exact h
end
def SQ (g2 g3:Nat)(PB NB:List Value)(bk ok:Nat)(k:Int)(bA ot:Nat)(tx2:ByteArray)(w:World):Prop:=Bx w g2 73 PB∧Bx w g3 37 NB∧w.cell? ⟨bk,ok,none⟩=some (.int .i64 k)∧w.cell? ⟨bA,ot,none⟩=some (.string tx2)
theorem SQ.kp {B b g2 g3 bk ok bA ot:Nat}{PB NB:List Value}{k:Int}{tx2:ByteArray}{w w':World}(h:SQ g2 g3 PB NB bk ok k bA ot tx2 w)(q:Kp B b w w')(h2:g2≠b)(h3:g3≠b)(hk:bk<B)(hA:bA<B):SQ g2 g3 PB NB bk ok k bA ot tx2 w':=
 ⟨Bx.kp h.1 q h2 (by decide),Bx.kp h.2.1 q h3 (by decide),(Below.cell q.1 (p:=⟨bk,ok,none⟩) hk).trans h.2.2.1,(Below.cell q.1 (p:=⟨bA,ot,none⟩) hA).trans h.2.2.2⟩
theorem ln_9 {w0:World}{A:Option Addr}{l:List Tr.Nd}{n:Nat}(c b f:Nat)(hx:Px0 w0 A l n)(d:Int)(p k:Nat)(t:List UInt8)(w:World)(hp:p<n)(hk:(ndA l p).kd=9)(hk0:(ndA l p).ks[0]?=some (k:Int))(hkn:k<n)
  (hb:Below w0.heap.size w0 w) (h:Pg w0.heap.size b t w) (hl:t.length+(lnT l f p).length≤140737488355328):Calls Tryz.prog 72 #[PV A n c b d,.int .i64 (p:Int)] w (WrPost w0.heap.size b (t++lnT l f p) (.tuple #[]) w):=by
 have hpl:p<l.length:=by rw[← hx.len];exact hp
 have hkl:k<l.length:=by rw[← hx.len];exact hkn
 have hkid:kidA l p 0=(k:Int):=by unfold kidA;rw[List.getD_eq_getElem?_getD,hk0];rfl
 have hex:lnT l f p=(ndA l p).tx.data.toList++[32,61,32,105,110,32]++(ndA l k).tx.data.toList:=by simp[lnT,hk,hkid,txA]
 rw[hex]at hl ⊢
 clear hex hkid
 obtain⟨bA0,off0,e0,hbA0,hcA⟩:=hx.nds (by omega)
 obtain⟨K2,c2',y0,y1,y2,y3,y4,y5⟩:=hcA k hkl
 obtain⟨bA,off,K,cK,eA,hlt,c0,c1,c2,c3,c4,z5⟩:=node_at hx.nds hb p hpl
 rw[e0]at eA
 injection eA with eA
 injection eA with e1 e2
 subst e1 e2 e0
 have ctx:=(hb.cell (p:=⟨bA0,off0+k*5+3,none⟩) hbA0).trans y3
 rw[← ndA_eq hpl]at c0 c1 c2 c3 c4 z5
 rw[← ndA_eq hkl]at ctx
 clear y0 y1 y2 y3 y4 y5 hcA
 rw[hk]at c0
 have hpz:(p:Int)<(n:Int):=by omega
 obtain⟨hnk,hk1⟩:=List.getElem?_eq_some_iff.1 hk0
 obtain⟨bk,ok,rfl,hbk,hck0⟩:=z5 hnk
 have hck:w0.cell? ⟨bk,ok,none⟩=some (.int .i64 (k:Int)):=(hck0 0 hnk).trans (by rw[hk1])
 have hckw:=(hb.cell (p:=⟨bk,ok,none⟩) hbk).trans hck
 have H:=Lib.hid h
 have HB:=Lib.hid hb
 have hbw:=h.bw
 have hbl:=h.lt
 have HL:=Lib.hid hl
 unfold PV
 clear hck0 hk0 hk1 hck
 generalize (ndA l k).tx=tx2 at *
 generalize (ndA l p).n=nn at *
 generalize (ndA l p).pl=pl at *
 generalize (ndA l p).tx=tx at *
 generalize (ndA l p).ks.length=nk at *
 have HX:=Lib.hid (show SQ w.heap.size (w.heap.size+1) [.slice (some ⟨bA0,off0,none⟩) n c,.func (.func 117) #[.pointer (some ⟨b,0,none⟩)] #[],.int .i64 d] [.int .i64 9,.int .i64 nn,.int .i64 pl,.string tx,.slice (some ⟨bk,ok,none⟩) nk cK] bk ok (k:Int) bA0 (off0+k*5+3) tx2 ((w.alloc (.cells #[.slice (some ⟨bA0,off0,none⟩) n c,.func (.func 117) #[.pointer (some ⟨b,0,none⟩)] #[],.int .i64 d] 73)).alloc (.cells #[.int .i64 9,.int .i64 nn,.int .i64 pl,.string tx,.slice (some ⟨bk,ok,none⟩) nk cK] 37)) by
  have b1:=s2_new w [.slice (some ⟨bA0,off0,none⟩) n c,.func (.func 117) #[.pointer (some ⟨b,0,none⟩)] #[],.int .i64 d] [.int .i64 9,.int .i64 nn,.int .i64 pl,.string tx,.slice (some ⟨bk,ok,none⟩) nk cK]
  have hb2:Below w.heap.size w ((w.alloc (.cells #[.slice (some ⟨bA0,off0,none⟩) n c,.func (.func 117) #[.pointer (some ⟨b,0,none⟩)] #[],.int .i64 d] 73)).alloc (.cells #[.int .i64 9,.int .i64 nn,.int .i64 pl,.string tx,.slice (some ⟨bk,ok,none⟩) nk cK] 37)):=((Below.refl _ _).alloc (Nat.le_refl _) _).alloc (by rw[World.size_alloc];omega) _
  exact⟨b1.1,b1.2,(hb2.cell (p:=⟨bk,ok,none⟩) (by show bk<w.heap.size;omega)).trans hckw,(hb2.cell (p:=⟨bA0,off0+k*5+3,none⟩) hlt).trans ctx⟩)
 have HW:=Lib.hid (((Kp.refl w0.heap.size b w).alloc hbw (.cells #[.slice (some ⟨bA0,off0,none⟩) n c,.func (.func 117) #[.pointer (some ⟨b,0,none⟩)] #[],.int .i64 d] 73)).alloc (by rw[World.size_alloc];omega) (.cells #[.int .i64 9,.int .i64 nn,.int .i64 pl,.string tx,.slice (some ⟨bk,ok,none⟩) nk cK] 37))
 clear hk hx hb h hl hpl hkl hckw ctx z5
 go_enter Tryz.func72,Tryz.ntmps72
 go_upto_region 11 with(fail)
 obtain⟨W4,hW4⟩:∃W4:World,((w.alloc (.cells #[.slice (some ⟨bA0,off0,none⟩) n c,.func (.func 117) #[.pointer (some ⟨b,0,none⟩)] #[],.int .i64 d] 73)).alloc (.cells #[.int .i64 9,.int .i64 nn,.int .i64 pl,.string tx,.slice (some ⟨bk,ok,none⟩) nk cK] 37))=W4:=⟨_,rfl⟩
 have hX:SQ w.heap.size (w.heap.size+1) [.slice (some ⟨bA0,off0,none⟩) n c,.func (.func 117) #[.pointer (some ⟨b,0,none⟩)] #[],.int .i64 d] [.int .i64 9,.int .i64 nn,.int .i64 pl,.string tx,.slice (some ⟨bk,ok,none⟩) nk cK] bk ok (k:Int) bA0 (off0+k*5+3) tx2 W4:=hW4▸HX.out
 have hW:Kp w0.heap.size b w W4:=hW4▸HW.out
 have hP4:Pg w0.heap.size b t W4:=hW4▸(H.out.alloc (.cells #[.slice (some ⟨bA0,off0,none⟩) n c,.func (.func 117) #[.pointer (some ⟨b,0,none⟩)] #[],.int .i64 d] 73)).alloc (.cells #[.int .i64 9,.int .i64 nn,.int .i64 pl,.string tx,.slice (some ⟨bk,ok,none⟩) nk cK] 37)
 rw[hW4]
 obtain⟨W5,hW5⟩:∃W5:World,{ W4 with drawn:=W4.drawn+1 }=W5:=⟨_,rfl⟩
 have hkd:Kp w0.heap.size b W4 W5:=by rw[← hW5];exact⟨Below.drew (Below.refl _ _),(Lib.OthersKept.refl _ _ W4).drew⟩
 have hS:=hX.kp hkd (by omega) (by omega) hbk hbA0
 have hP5:Pg w0.heap.size b t W5:=by rw[← hW5];exact hP4
 have hw5:=hW.trans hkd
 refine wp_region_held (S:=SQ w.heap.size (w.heap.size+1) [.slice (some ⟨bA0,off0,none⟩) n c,.func (.func 117) #[.pointer (some ⟨b,0,none⟩)] #[],.int .i64 d] [.int .i64 9,.int .i64 nn,.int .i64 pl,.string tx,.slice (some ⟨bk,ok,none⟩) nk cK] bk ok (k:Int) bA0 (off0+k*5+3) tx2) (by kernel_rfl) ?_
 rw[hW5]
 clear hW5 hX hW hP4 HX HW hW4
 refine hpu 0 (.pointer (some ⟨w.heap.size,1,none⟩)) (by kernel_rfl) rfl rfl (fun _ _ _ h=>h) rfl (y_field rfl rfl (run_field73_1 _)) hS ?_
 simp only[ap]
 refine hpu 1 (.func (.func 117) #[.pointer (some ⟨b,0,none⟩)] #[]) (by kernel_rfl) rfl rfl (fun _ _ _ h=>h) rfl (y_load rfl rfl (fun w' q=>run_load71 ((q.1.cell 1).trans rfl))) hS ?_
 simp only[ap]
 refine hpu 2 (.pointer (some ⟨w.heap.size+1,3,none⟩)) (by kernel_rfl) rfl rfl (fun _ _ _ h=>h) rfl (y_field rfl rfl (run_field37_3 _)) hS ?_
 simp only[ap]
 refine hpu 3 (.string tx) (by kernel_rfl) rfl rfl (fun _ _ _ h=>h) rfl (y_load rfl rfl (fun w' q=>run_load9 ((q.2.1.cell 3).trans rfl))) hS ?_
 simp only[ap]
 refine hpu 4 (.pointer (some ⟨w.heap.size,0,none⟩)) (by kernel_rfl) rfl rfl (fun _ _ _ h=>h) rfl (y_field rfl rfl (run_field73_0 _)) hS ?_
 simp only[ap]
 refine hpu 5 (.slice (some ⟨bA0,off0,none⟩) n c) (by kernel_rfl) rfl rfl (fun _ _ _ h=>h) rfl (y_load rfl rfl (fun w' q=>run_load23o ((q.1.cell 0).trans rfl))) hS ?_
 simp only[ap]
 refine hpu 6 (.pointer (some ⟨w.heap.size+1,4,none⟩)) (by kernel_rfl) rfl rfl (fun _ _ _ h=>h) rfl (y_field rfl rfl (run_field37_4 _)) hS ?_
 simp only[ap]
 refine hpu 7 (.slice (some ⟨bk,ok,none⟩) nk cK) (by kernel_rfl) rfl rfl (fun _ _ _ h=>h) rfl (y_load rfl rfl (fun w' q=>run_load35x ((q.2.1.cell 4).trans rfl))) hS ?_
 simp only[ap]
 refine hpu 8 (.pointer (some ⟨bk,ok+0,none⟩)) (by kernel_rfl) rfl rfl (fun _ _ _ h=>h) rfl (y_index rfl rfl rfl (fun w=>run_index35 bk ok nk cK 0 hnk w)) hS ?_
 simp only[ap]
 refine hpu 9 (.int .i64 (k:Int)) (by kernel_rfl) rfl rfl (fun _ _ _ h=>h) rfl (y_load rfl rfl (fun w' q=>run_load3 q.2.2.1)) hS ?_
 simp only[ap]
 refine hpu 10 (.pointer (some ⟨bA0,off0+k*5,none⟩)) (by kernel_rfl) rfl rfl (fun _ _ _ h=>h) rfl (y_index rfl rfl rfl (fun w=>run_index23 bA0 off0 n c k hkn w)) hS ?_
 simp only[ap]
 refine hpu 11 (.pointer (some ⟨bA0,off0+k*5+3,none⟩)) (by kernel_rfl) rfl rfl (fun _ _ _ h=>h) rfl (y_field rfl rfl (run_field37_3o _ _)) hS ?_
 simp only[ap]
 refine hpu 12 (.string tx2) (by kernel_rfl) rfl rfl (fun _ _ _ h=>h) rfl (y_load rfl rfl (fun w' q=>run_load9 q.2.2.2)) hS ?_
 simp only[ap]
 have hS3:SQ w.heap.size (w.heap.size+1) [.slice (some ⟨bA0,off0,none⟩) n c,.func (.func 117) #[.pointer (some ⟨b,0,none⟩)] #[],.int .i64 d] [.int .i64 9,.int .i64 nn,.int .i64 pl,.string tx,.slice (some ⟨bk,ok,none⟩) nk cK] bk ok (k:Int) bA0 (off0+k*5+3) tx2 (W5.alloc (.cells #[.string tx,.string ⟨#[32,61,32,105,110,32]⟩,.string tx2] 9)):=hS.kp ((Kp.refl w0.heap.size b W5).alloc hP5.bw _) (by omega) (by omega) hbk hbA0
 refine h_one 13 ({ dst:=some 56,op:=Op.buildSlice 40 3 #[(0,Operand.tmp 46),(1,Operand.const (Value.string { data := #[32,61,32,105,110,32] })),(2,Operand.tmp 55)],type:=40,pos := "printer.go:138",after := #[{ on:=3,ground:=Ground.data },{ on:=12,ground:=Ground.data }],guard:=none }:Oper) rfl (by kernel_rfl) rfl (slice40t rfl rfl rfl rfl ⟨hS3,?_⟩)
 simp only[ap]
 refine h_callv 14 ({ dst:=some 57,op:=Op.call { callee:=Callee.value (Operand.tmp 44),args := #[Operand.tmp 56],argTypes := #[40] },type:=0,pos := "printer.go:138",after := #[{ on:=1,ground:=Ground.data },{ on:=13,ground:=Ground.data }],guard:=none }:Oper) (pre := #[.pointer (some ⟨b,0,none⟩)]) (args := #[.slice (some ⟨W5.heap.size,0,none⟩) 3 3]) own117x rfl rfl (by kernel_rfl) rfl rfl rfl (write_new w0.heap.size b t [tx.data.toList,[32,61,32,105,110,32],tx2.data.toList] W5 hP5 (by simp;have:=HL.out;simp at this;omega) (by simp) 3 rfl _ (by simp[bsX_of];rfl) _ rfl) ?_
 rintro e w3 ⟨rfl,hp3,hk3⟩
 have hS4:=hS.kp hk3 (by omega) (by omega) hbk hbA0
 refine .inr ⟨_,rfl,hS4,?_⟩
 simp only[ap]
 refine wpAnyH_done (by kernel_rfl) ?_ _
 have HP:=Lib.hid hp3
 have HK:=Lib.hid (hw5.trans hk3)
 clear hS hS3 hS4 hP5 hw5 hk3 hp3 hkd
 go_wp2
 go_end0
 exact⟨rfl,by simpa using HP.out,HK.out⟩
end
section
set_option maxHeartbeats 3000000
set_option maxRecDepth 100000
open Go Go.RowKit
open Tr (Bx heap1 bt Nds Ints)
theorem ln_10 {w0:World}{A:Option Addr}{l:List Tr.Nd}{n c b f:Nat}(hx:Px0 w0 A l n)(hr:RecE w0 A l n c b f)(d:Int)(p k j:Nat)(t:List UInt8)(w:World)(hp:p<n)(hk:(ndA l p).kd=10)(hks:(ndA l p).ks=[(k:Int),(j:Int)])(hkn:k<n)(hjf:j<f)(hjn:j<n)(hje:Tr.expB (ndA l j).kd=true)
  (hb:Below w0.heap.size w0 w) (h:Pg w0.heap.size b t w) (hl:t.length+(lnT l f p).length≤140737488355328):Calls Tryz.prog 72 #[PV A n c b d,.int .i64 (p:Int)] w (WrPost w0.heap.size b (t++lnT l f p) (.tuple #[]) w):=by
 have hpl:p<l.length:=by rw[← hx.len];exact hp
 have hkl:k<l.length:=by rw[← hx.len];exact hkn
 have hkid:kidA l p 0=(k:Int):=by unfold kidA;rw[hks];rfl
 have hjid:kidA l p 1=(j:Int):=by unfold kidA;rw[hks];rfl
 have hex:lnT l f p=[111,117,116,32]++(ndA l k).tx.data.toList++[32]++exT l f j:=by simp[lnT,hk,hkid,hjid,txA]
 rw[hex]at hl ⊢
 clear hex hkid hjid
 obtain⟨bA0,off0,e0,hbA0,hcA⟩:=hx.nds (by omega)
 obtain⟨K2,c2',y0,y1,y2,y3,y4,y5⟩:=hcA k hkl
 obtain⟨bA,off,K,cK,eA,hlt,c0,c1,c2,c3,c4,z5⟩:=node_at hx.nds hb p hpl
 rw[e0]at eA
 injection eA with eA
 injection eA with e1 e2
 subst e1 e2 e0
 have ctx:=(hb.cell (p:=⟨bA0,off0+k*5+3,none⟩) hbA0).trans y3
 rw[← ndA_eq hpl]at c0 c1 c2 c3 c4 z5
 rw[← ndA_eq hkl]at ctx
 clear y0 y1 y2 y3 y4 y5 hcA
 rw[hk]at c0
 rw[hks]at c4 z5
 have c4:w.cell? ⟨bA0,off0+p*5+4,none⟩=some (.slice K 2 cK):=c4
 have hpz:(p:Int)<(n:Int):=by omega
 obtain⟨bk,ok,rfl,hbk,hck0⟩:=z5 (by simp)
 have hck:w0.cell? ⟨bk,ok,none⟩=some (.int .i64 (k:Int)):=hck0 0 (by simp)
 have hcj:w0.cell? ⟨bk,ok+1,none⟩=some (.int .i64 (j:Int)):=hck0 1 (by simp)
 have hckw:=(hb.cell (p:=⟨bk,ok,none⟩) hbk).trans hck
 have H:=Lib.hid h
 have HB:=Lib.hid hb
 have hbw:=h.bw
 have hbl:=h.lt
 have HL:=Lib.hid hl
 have HO:=Lib.hid (fun t' w' (q:Below w0.heap.size w0 w') (h':Pg w0.heap.size b t' w') (hl':t'.length+(exT l f j).length≤140737488355328)=>hr j d t' w' hjf hjn hje q h' hl')
 unfold PV at HO
 unfold PV
 clear hck0 hks hck
 generalize exT l f (j:Int)=y2 at *
 generalize (ndA l k).tx=tx2 at *
 generalize (ndA l p).n=nn at *
 generalize (ndA l p).pl=pl at *
 generalize (ndA l p).tx=tx at *
 have HX:=Lib.hid (show SQ w.heap.size (w.heap.size+1) [.slice (some ⟨bA0,off0,none⟩) n c,.func (.func 117) #[.pointer (some ⟨b,0,none⟩)] #[],.int .i64 d] [.int .i64 10,.int .i64 nn,.int .i64 pl,.string tx,.slice (some ⟨bk,ok,none⟩) 2 cK] bk ok (k:Int) bA0 (off0+k*5+3) tx2 ((w.alloc (.cells #[.slice (some ⟨bA0,off0,none⟩) n c,.func (.func 117) #[.pointer (some ⟨b,0,none⟩)] #[],.int .i64 d] 73)).alloc (.cells #[.int .i64 10,.int .i64 nn,.int .i64 pl,.string tx,.slice (some ⟨bk,ok,none⟩) 2 cK] 37)) by
  have b1:=s2_new w [.slice (some ⟨bA0,off0,none⟩) n c,.func (.func 117) #[.pointer (some ⟨b,0,none⟩)] #[],.int .i64 d] [.int .i64 10,.int .i64 nn,.int .i64 pl,.string tx,.slice (some ⟨bk,ok,none⟩) 2 cK]
  have hb2:Below w.heap.size w ((w.alloc (.cells #[.slice (some ⟨bA0,off0,none⟩) n c,.func (.func 117) #[.pointer (some ⟨b,0,none⟩)] #[],.int .i64 d] 73)).alloc (.cells #[.int .i64 10,.int .i64 nn,.int .i64 pl,.string tx,.slice (some ⟨bk,ok,none⟩) 2 cK] 37)):=((Below.refl _ _).alloc (Nat.le_refl _) _).alloc (by rw[World.size_alloc];omega) _
  exact⟨b1.1,b1.2,(hb2.cell (p:=⟨bk,ok,none⟩) (by show bk<w.heap.size;omega)).trans hckw,(hb2.cell (p:=⟨bA0,off0+k*5+3,none⟩) hlt).trans ctx⟩)
 have HX2:=Lib.hid (show SP w.heap.size (w.heap.size+1) [.slice (some ⟨bA0,off0,none⟩) n c,.func (.func 117) #[.pointer (some ⟨b,0,none⟩)] #[],.int .i64 d] [.int .i64 10,.int .i64 nn,.int .i64 pl,.string tx,.slice (some ⟨bk,ok,none⟩) 2 cK] bk (ok+1) (j:Int) ((w.alloc (.cells #[.slice (some ⟨bA0,off0,none⟩) n c,.func (.func 117) #[.pointer (some ⟨b,0,none⟩)] #[],.int .i64 d] 73)).alloc (.cells #[.int .i64 10,.int .i64 nn,.int .i64 pl,.string tx,.slice (some ⟨bk,ok,none⟩) 2 cK] 37)) by
  have b1:=Bx.new w 73 [.slice (some ⟨bA0,off0,none⟩) n c,.func (.func 117) #[.pointer (some ⟨b,0,none⟩)] #[],.int .i64 d]
  have b2:=Bx.new (w.alloc (.cells #[.slice (some ⟨bA0,off0,none⟩) n c,.func (.func 117) #[.pointer (some ⟨b,0,none⟩)] #[],.int .i64 d] 73)) 37 [.int .i64 10,.int .i64 nn,.int .i64 pl,.string tx,.slice (some ⟨bk,ok,none⟩) 2 cK]
  have b3:=b1.alloc (.cells #[.int .i64 10,.int .i64 nn,.int .i64 pl,.string tx,.slice (some ⟨bk,ok,none⟩) 2 cK] 37)
  rw[World.size_alloc]at b2
  refine⟨b3,b2,?_⟩
  have hb2:Below w0.heap.size w0 ((w.alloc (.cells #[.slice (some ⟨bA0,off0,none⟩) n c,.func (.func 117) #[.pointer (some ⟨b,0,none⟩)] #[],.int .i64 d] 73)).alloc (.cells #[.int .i64 10,.int .i64 nn,.int .i64 pl,.string tx,.slice (some ⟨bk,ok,none⟩) 2 cK] 37)):=(HB.out.alloc hbw _).alloc (by rw[World.size_alloc];omega) _
  exact(hb2.cell (p:=⟨bk,ok+1,none⟩) hbk).trans hcj)
 have HW:=Lib.hid (((Kp.refl w0.heap.size b w).alloc hbw (.cells #[.slice (some ⟨bA0,off0,none⟩) n c,.func (.func 117) #[.pointer (some ⟨b,0,none⟩)] #[],.int .i64 d] 73)).alloc (by rw[World.size_alloc];omega) (.cells #[.int .i64 10,.int .i64 nn,.int .i64 pl,.string tx,.slice (some ⟨bk,ok,none⟩) 2 cK] 37))
 clear hk hx hb h hl hpl hkl hckw ctx hr hje hcj hjf hjn
 go_enter Tryz.func72,Tryz.ntmps72
 go_upto_region 13 with(fail)
 obtain⟨W4,hW4⟩:∃W4:World,((w.alloc (.cells #[.slice (some ⟨bA0,off0,none⟩) n c,.func (.func 117) #[.pointer (some ⟨b,0,none⟩)] #[],.int .i64 d] 73)).alloc (.cells #[.int .i64 10,.int .i64 nn,.int .i64 pl,.string tx,.slice (some ⟨bk,ok,none⟩) 2 cK] 37))=W4:=⟨_,rfl⟩
 have hX:SQ w.heap.size (w.heap.size+1) [.slice (some ⟨bA0,off0,none⟩) n c,.func (.func 117) #[.pointer (some ⟨b,0,none⟩)] #[],.int .i64 d] [.int .i64 10,.int .i64 nn,.int .i64 pl,.string tx,.slice (some ⟨bk,ok,none⟩) 2 cK] bk ok (k:Int) bA0 (off0+k*5+3) tx2 W4:=hW4▸HX.out
 have HT:=Lib.hid (show SP w.heap.size (w.heap.size+1) [.slice (some ⟨bA0,off0,none⟩) n c,.func (.func 117) #[.pointer (some ⟨b,0,none⟩)] #[],.int .i64 d] [.int .i64 10,.int .i64 nn,.int .i64 pl,.string tx,.slice (some ⟨bk,ok,none⟩) 2 cK] bk (ok+1) (j:Int) W4 from hW4▸HX2.out)
 have hW:Kp w0.heap.size b w W4:=hW4▸HW.out
 have hP4:Pg w0.heap.size b t W4:=hW4▸(H.out.alloc (.cells #[.slice (some ⟨bA0,off0,none⟩) n c,.func (.func 117) #[.pointer (some ⟨b,0,none⟩)] #[],.int .i64 d] 73)).alloc (.cells #[.int .i64 10,.int .i64 nn,.int .i64 pl,.string tx,.slice (some ⟨bk,ok,none⟩) 2 cK] 37)
 rw[hW4]
 obtain⟨W5,hW5⟩:∃W5:World,{ W4 with drawn:=W4.drawn+1 }=W5:=⟨_,rfl⟩
 have hkd:Kp w0.heap.size b W4 W5:=by rw[← hW5];exact⟨Below.drew (Below.refl _ _),(Lib.OthersKept.refl _ _ W4).drew⟩
 have hS:=hX.kp hkd (by omega) (by omega) hbk hbA0
 have hP5:Pg w0.heap.size b t W5:=by rw[← hW5];exact hP4
 have hw5:=hW.trans hkd
 refine wp_region_held (S:=SQ w.heap.size (w.heap.size+1) [.slice (some ⟨bA0,off0,none⟩) n c,.func (.func 117) #[.pointer (some ⟨b,0,none⟩)] #[],.int .i64 d] [.int .i64 10,.int .i64 nn,.int .i64 pl,.string tx,.slice (some ⟨bk,ok,none⟩) 2 cK] bk ok (k:Int) bA0 (off0+k*5+3) tx2) (by kernel_rfl) ?_
 rw[hW5]
 clear hW5 hX hW hP4 HX HX2 HW hW4
 refine hpu 0 (.pointer (some ⟨w.heap.size,1,none⟩)) (by kernel_rfl) rfl rfl (fun _ _ _ h=>h) rfl (y_field rfl rfl (run_field73_1 _)) hS ?_
 simp only[ap]
 refine hpu 1 (.func (.func 117) #[.pointer (some ⟨b,0,none⟩)] #[]) (by kernel_rfl) rfl rfl (fun _ _ _ h=>h) rfl (y_load rfl rfl (fun w' q=>run_load71 ((q.1.cell 1).trans rfl))) hS ?_
 simp only[ap]
 refine hpu 2 (.pointer (some ⟨w.heap.size,0,none⟩)) (by kernel_rfl) rfl rfl (fun _ _ _ h=>h) rfl (y_field rfl rfl (run_field73_0 _)) hS ?_
 simp only[ap]
 refine hpu 3 (.slice (some ⟨bA0,off0,none⟩) n c) (by kernel_rfl) rfl rfl (fun _ _ _ h=>h) rfl (y_load rfl rfl (fun w' q=>run_load23o ((q.1.cell 0).trans rfl))) hS ?_
 simp only[ap]
 refine hpu 4 (.pointer (some ⟨w.heap.size+1,4,none⟩)) (by kernel_rfl) rfl rfl (fun _ _ _ h=>h) rfl (y_field rfl rfl (run_field37_4 _)) hS ?_
 simp only[ap]
 refine hpu 5 (.slice (some ⟨bk,ok,none⟩) 2 cK) (by kernel_rfl) rfl rfl (fun _ _ _ h=>h) rfl (y_load rfl rfl (fun w' q=>run_load35x ((q.2.1.cell 4).trans rfl))) hS ?_
 simp only[ap]
 refine hpu 6 (.pointer (some ⟨bk,ok+0,none⟩)) (by kernel_rfl) rfl rfl (fun _ _ _ h=>h) rfl (y_index rfl rfl rfl (fun w=>run_index35 bk ok 2 cK 0 (by decide) w)) hS ?_
 simp only[ap]
 refine hpu 7 (.int .i64 (k:Int)) (by kernel_rfl) rfl rfl (fun _ _ _ h=>h) rfl (y_load rfl rfl (fun w' q=>run_load3 q.2.2.1)) hS ?_
 simp only[ap]
 refine hpu 8 (.pointer (some ⟨bA0,off0+k*5,none⟩)) (by kernel_rfl) rfl rfl (fun _ _ _ h=>h) rfl (y_index rfl rfl rfl (fun w=>run_index23 bA0 off0 n c k hkn w)) hS ?_
 simp only[ap]
 refine hpu 9 (.pointer (some ⟨bA0,off0+k*5+3,none⟩)) (by kernel_rfl) rfl rfl (fun _ _ _ h=>h) rfl (y_field rfl rfl (run_field37_3o _ _)) hS ?_
 simp only[ap]
 refine hpu 10 (.string tx2) (by kernel_rfl) rfl rfl (fun _ _ _ h=>h) rfl (y_load rfl rfl (fun w' q=>run_load9 q.2.2.2)) hS ?_
 simp only[ap]
 have hS3:SQ w.heap.size (w.heap.size+1) [.slice (some ⟨bA0,off0,none⟩) n c,.func (.func 117) #[.pointer (some ⟨b,0,none⟩)] #[],.int .i64 d] [.int .i64 10,.int .i64 nn,.int .i64 pl,.string tx,.slice (some ⟨bk,ok,none⟩) 2 cK] bk ok (k:Int) bA0 (off0+k*5+3) tx2 (W5.alloc (.cells #[.string ⟨#[111,117,116,32]⟩,.string tx2,.string ⟨#[32]⟩] 9)):=hS.kp ((Kp.refl w0.heap.size b W5).alloc hP5.bw _) (by omega) (by omega) hbk hbA0
 refine h_one 11 ({ dst:=some 71,op:=Op.buildSlice 40 3 #[(0,Operand.const (Value.string { data := #[111,117,116,32] })),(1,Operand.tmp 70),(2,Operand.const (Value.string { data := #[32] }))],type:=40,pos := "printer.go:140",after := #[{ on:=10,ground:=Ground.data }],guard:=none }:Oper) rfl (by kernel_rfl) rfl (slice40t rfl rfl rfl rfl ⟨hS3,?_⟩)
 simp only[ap]
 refine h_callv 12 ({ dst:=some 72,op:=Op.call { callee:=Callee.value (Operand.tmp 61),args := #[Operand.tmp 71],argTypes := #[40] },type:=0,pos := "printer.go:140",after := #[{ on:=1,ground:=Ground.data },{ on:=11,ground:=Ground.data }],guard:=none }:Oper) (pre := #[.pointer (some ⟨b,0,none⟩)]) (args := #[.slice (some ⟨W5.heap.size,0,none⟩) 3 3]) own117x rfl rfl (by kernel_rfl) rfl rfl rfl (write_new w0.heap.size b t [[111,117,116,32],tx2.data.toList,[32]] W5 hP5 (by have:=HL.out;simp only[List.length_append,List.length_cons,List.length_nil,List.flatten_cons,List.flatten_nil]at this ⊢;omega) (by simp) 3 rfl _ (by simp[bsX_of];exact⟨rfl,rfl⟩) _ rfl) ?_
 rintro e w3 ⟨rfl,hp3,hk3⟩
 have hS4:=hS.kp hk3 (by omega) (by omega) hbk hbA0
 refine .inr ⟨_,rfl,hS4,?_⟩
 simp only[ap]
 refine wpAnyH_done (by kernel_rfl) ?_ _
 have HP3:=Lib.hid hp3
 have HW3:=Lib.hid (hw5.trans hk3)
 have HS3:=Lib.hid ((HT.out.kp hkd (by omega) (by omega) hbk).kp hk3 (by omega) (by omega) hbk)
 clear hS hS3 hS4 hP5 hw5 hk3 hp3 hkd HT
 go_upto_region 14 with(fail)
 obtain⟨W6,hW6⟩:∃W6:World,{ w3 with drawn:=w3.drawn+1 }=W6:=⟨_,rfl⟩
 have hkd:Kp w0.heap.size b w3 W6:=by rw[← hW6];exact⟨Below.drew (Below.refl _ _),(Lib.OthersKept.refl _ _ w3).drew⟩
 have hS:SP w.heap.size (w.heap.size+1) [.slice (some ⟨bA0,off0,none⟩) n c,.func (.func 117) #[.pointer (some ⟨b,0,none⟩)] #[],.int .i64 d] [.int .i64 10,.int .i64 nn,.int .i64 pl,.string tx,.slice (some ⟨bk,ok,none⟩) 2 cK] bk (ok+1) (j:Int) W6:=HS3.out.kp hkd (by omega) (by omega) hbk
 have hP5:Pg w0.heap.size b (t++([[111,117,116,32],tx2.data.toList,[32]]:List (List UInt8)).flatten) W6:=by rw[← hW6];exact HP3.out
 have hw5:=HW3.out.trans hkd
 refine wp_region_held (S:=SP w.heap.size (w.heap.size+1) [.slice (some ⟨bA0,off0,none⟩) n c,.func (.func 117) #[.pointer (some ⟨b,0,none⟩)] #[],.int .i64 d] [.int .i64 10,.int .i64 nn,.int .i64 pl,.string tx,.slice (some ⟨bk,ok,none⟩) 2 cK] bk (ok+1) (j:Int)) (by kernel_rfl) ?_
 rw[hW6]
 clear hW6
 refine hpu 0 (.agg #[.slice (some ⟨bA0,off0,none⟩) n c,.func (.func 117) #[.pointer (some ⟨b,0,none⟩)] #[],.int .i64 d]) (by kernel_rfl) rfl rfl (fun _ _ _ h=>h) rfl (y_load rfl rfl (fun w' q=>run_load73 ((q.1.cell 0).trans rfl) ((q.1.cell 1).trans rfl) ((q.1.cell 2).trans rfl))) hS ?_
 simp only[ap]
 refine hpu 1 (.pointer (some ⟨w.heap.size+1,4,none⟩)) (by kernel_rfl) rfl rfl (fun _ _ _ h=>h) rfl (y_field rfl rfl (run_field37_4 _)) hS ?_
 simp only[ap]
 refine hpu 2 (.slice (some ⟨bk,ok,none⟩) 2 cK) (by kernel_rfl) rfl rfl (fun _ _ _ h=>h) rfl (y_load rfl rfl (fun w' q=>run_load35x ((q.2.1.cell 4).trans rfl))) hS ?_
 simp only[ap]
 refine hpu 3 (.pointer (some ⟨bk,ok+1,none⟩)) (by kernel_rfl) rfl rfl (fun _ _ _ h=>h) rfl (y_index rfl rfl rfl (fun w=>run_index35 bk ok 2 cK 1 (by decide) w)) hS ?_
 simp only[ap]
 refine hpu 4 (.int .i64 (j:Int)) (by kernel_rfl) rfl rfl (fun _ _ _ h=>h) rfl (y_load rfl rfl (fun w' q=>run_load3 q.2.2)) hS ?_
 simp only[ap]
 refine h_callx 5 ({ dst:=some 78,op:=Op.call { callee:=Callee.value (Operand.func 66),args := #[Operand.tmp 73,Operand.tmp 77],argTypes := #[73,3] },type:=0,pos := "printer.go:141",after := #[{ on:=0,ground:=Ground.data },{ on:=4,ground:=Ground.data }],guard:=none }:Oper) (args := #[.agg #[.slice (some ⟨bA0,off0,none⟩) n c,.func (.func 117) #[.pointer (some ⟨b,0,none⟩)] #[],.int .i64 d],.int .i64 (j:Int)]) own66x rfl rfl (by kernel_rfl) rfl rfl (HO.out _ _ (Kp.w0 HB.out hw5) hP5 (by have:=HL.out;simp only[List.length_append,List.length_cons,List.length_nil,List.flatten_cons,List.flatten_nil]at this ⊢;omega)) ?_
 rintro e w4 ⟨rfl,hp2,hk2⟩
 have hS2:=hS.kp hk2 (by omega) (by omega) hbk
 refine .inr ⟨_,rfl,hS2,?_⟩
 simp only[ap]
 refine wpAnyH_done (by kernel_rfl) ?_ _
 have HP4:=Lib.hid hp2
 have HW4:=Lib.hid (hw5.trans hk2)
 clear hS hP5 hw5 hkd HS3 HP3 HW3 hp2 hk2 hS2
 go_wp2
 go_end0
 exact⟨rfl,by simpa using HP4.out,HW4.out⟩
end
end Go.Proofs.YteecfjhjllajlaaGreatDoor
