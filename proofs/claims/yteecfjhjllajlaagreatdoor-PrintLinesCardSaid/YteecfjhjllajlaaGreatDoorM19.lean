/- PROVED here: parts Xt of the claim. No condition but those in each theorem's own head. -/
import Derived.Test.YteecfjhjllajlaaGreatDoorM17
import Derived.Test.YteecfjhjllajlaaGreatDoorM18
namespace Go.Proofs.YteecfjhjllajlaaGreatDoor
section
set_option maxHeartbeats 4000000
set_option maxRecDepth 100000
open Go Go.RowKit
open Tr (Bx heap1 bt Nds Ints)
theorem own194x:Own 194:=⟨_,Tryz.func194,by kernel_rfl,by kernel_rfl⟩
def SI (g:Nat)(PB NB:List Value)(bk ok:Nat)(ks:List Int)(w:World):Prop:=Bx w g 73 PB∧Bx w (g+1) 37 NB∧∀j (hj:j<ks.length),w.cell? ⟨bk,ok+j,none⟩=some (.int .i64 ks[j])
theorem SI.kp {B b g bk ok:Nat}{PB NB:List Value}{ks:List Int}{w w':World}(h:SI g PB NB bk ok ks w)(q:Kp B b w w')(h2:g≠b)(h3:g+1≠b)(hk:bk<B):SI g PB NB bk ok ks w':=
 ⟨Bx.kp h.1 q h2 (by decide),Bx.kp h.2.1 q h3 (by decide),fun j hj=>(Below.cell q.1 (p:=⟨bk,ok+j,none⟩) hk).trans (h.2.2 j hj)⟩
def SJ (g:Nat)(PB NB:List Value)(bk ok:Nat)(ks:List Int)(bA oc:Nat)(v:Value)(w:World):Prop:=SI g PB NB bk ok ks w∧w.cell? ⟨bA,oc,none⟩=some v
theorem SJ.kp {B b g bk ok bA oc:Nat}{PB NB:List Value}{ks:List Int}{v:Value}{w w':World}(h:SJ g PB NB bk ok ks bA oc v w)(q:Kp B b w w')(h2:g≠b)(h3:g+1≠b)(hk:bk<B)(hA:bA<B):SJ g PB NB bk ok ks bA oc v w':=
 ⟨h.1.kp q h2 h3 hk,(Below.cell q.1 (p:=⟨bA,oc,none⟩) hA).trans h.2⟩
theorem run_field37_4o (b o:Nat)(w:World):(Instr.fieldAt 37 (.pointer (some ⟨b,o,none⟩)) 4).run Tryz.prog w = .ok (.pointer (some ⟨b,o+4,none⟩)) w:=by kernel_rfl
theorem y_len35 {S:World→Prop}{a:Act}{o:Oper}{x:Operand}{A:Option Addr}{n c:Nat}(ho:o.op = .call { callee :=.builtin .len,args := #[x],argTypes := #[35] })(hx:a.eval x = .slice A n c):∀w,S w→(execOp a.eval o).run Tryz.prog w = .ok (.value (.int .i64 (n:Int))) w:=fun w _=>by
 have h22:Tryz.prog.underlying 35=some (.slice (Tryz.prog.elem 35)):=by kernel_rfl
 have hl:=run_len_slice (P:=Tryz.prog) w 35 o.type A n c h22
 unfold execOp
 simp only[ho,resolve,invoke,builtin,Sem.run_bind,Sem.run_pure,Result.andThen_ok,List.map_toArray,List.map_cons,List.map_nil,hx]
 simp[hl]
 rfl
theorem st_12 {w0:World}{A:Option Addr}{l:List Tr.Nd}{n:Nat}(c b d:Nat)(hx:Px0 w0 A l n)(p:Nat)(a k2:Nat)(yl:List UInt8)(y2:List UInt8)(t:List UInt8)(w:World)(hp:p<n)(hd:d≤100000)(hk:(ndA l p).kd=12)(hks:(ndA l p).ks=[(a:Int),(k2:Int)])
  (hln:∀t' w',Below w0.heap.size w0 w'→Pg w0.heap.size b t' w'→t'.length+yl.length≤140737488355328→Calls Tryz.prog 72 #[PV A n c b (d:Int),.int .i64 (p:Int)] w' (WrPost w0.heap.size b (t'++yl) (.tuple #[]) w'))
  (hb2:∀t' w',Below w0.heap.size w0 w'→Pg w0.heap.size b t' w'→t'.length+y2.length≤140737488355328→Calls Tryz.prog 194 #[PV A n c b (d:Int),.int .i64 (k2:Int),.slice none 0 0] w' (WrPost w0.heap.size b (t'++y2) (.tuple #[]) w'))
  (hb:Below w0.heap.size w0 w) (h:Pg w0.heap.size b t w) (hl:t.length+(indT d++yl++(y2)++[10]).length≤140737488355328):Calls Tryz.prog 246 #[PV A n c b (d:Int),.int .i64 (p:Int)] w (WrPost w0.heap.size b (t++(indT d++yl++(y2)++[10])) (.tuple #[]) w):=by
 have hpl:p<l.length:=by rw[← hx.len];exact hp
 obtain⟨bA,off,K,cK,rfl,hlt,c0,c1,c2,c3,c4,z5⟩:=node_at hx.nds hb p hpl
 rw[← ndA_eq hpl]at c0 c1 c2 c3 c4 z5
 rw[hk]at c0
 have hpz:(p:Int)<(n:Int):=by omega
 rw[hks]at c4 z5
 have c4:w.cell? ⟨bA,off+p*5+4,none⟩=some (.slice K 2 cK):=c4
 obtain⟨bk,ok,rfl,hbk,hck0⟩:=z5 (by simp)
 have hckw:∀j (hj:j<([(a:Int),(k2:Int)]:List Int).length),w.cell? ⟨bk,ok+j,none⟩=some (.int .i64 ([(a:Int),(k2:Int)]:List Int)[j]):=fun j hj=>(hb.cell (p:=⟨bk,ok+j,none⟩) hbk).trans (hck0 j hj)
 have HI:=Lib.hid (fun t' w' (h':Pg w0.heap.size b t' w') (hl':t'.length+(indT d).length≤140737488355328)=>indent_pg (B:=w0.heap.size) (some ⟨bA,off,none⟩) n c b d t' w' (by omega) h' hl')
 have HLN:=Lib.hid hln
 have HB2:=Lib.hid hb2
 generalize indT d=yi at *
 have HL:=Lib.hid hl
 have HB:=Lib.hid hb
 have H:=Lib.hid h
 have hbw:=h.bw
 have hbl:=h.lt
 have hsz:=hb.size
 unfold PV at HI HLN HB2
 unfold PV
 generalize (ndA l p).n=nn at *
 generalize (ndA l p).pl=pl at *
 generalize (ndA l p).tx=tx at *
 have HX0:=Lib.hid (show SI w.heap.size [.slice (some ⟨bA,off,none⟩) n c,.func (.func 117) #[.pointer (some ⟨b,0,none⟩)] #[],.int .i64 (d:Int)] [.int .i64 12,.int .i64 nn,.int .i64 pl,.string tx,.slice (some ⟨bk,ok,none⟩) 2 cK] bk ok [(a:Int),(k2:Int)] ((w.alloc (.cells #[.slice (some ⟨bA,off,none⟩) n c,.func (.func 117) #[.pointer (some ⟨b,0,none⟩)] #[],.int .i64 (d:Int)] 73)).alloc (.cells #[.int .i64 12,.int .i64 nn,.int .i64 pl,.string tx,.slice (some ⟨bk,ok,none⟩) 2 cK] 37)) by
  have b1:=s2_new w [.slice (some ⟨bA,off,none⟩) n c,.func (.func 117) #[.pointer (some ⟨b,0,none⟩)] #[],.int .i64 (d:Int)] [.int .i64 12,.int .i64 nn,.int .i64 pl,.string tx,.slice (some ⟨bk,ok,none⟩) 2 cK]
  have hb2:Below w.heap.size w ((w.alloc (.cells #[.slice (some ⟨bA,off,none⟩) n c,.func (.func 117) #[.pointer (some ⟨b,0,none⟩)] #[],.int .i64 (d:Int)] 73)).alloc (.cells #[.int .i64 12,.int .i64 nn,.int .i64 pl,.string tx,.slice (some ⟨bk,ok,none⟩) 2 cK] 37)):=((Below.refl _ _).alloc (Nat.le_refl _) _).alloc (by rw[World.size_alloc];omega) _
  exact⟨b1.1,b1.2,fun j hj=>(hb2.cell (p:=⟨bk,ok+j,none⟩) (by show bk<w.heap.size;omega)).trans (hckw j hj)⟩)
 have HP0:=Lib.hid ((h.alloc (.cells #[.slice (some ⟨bA,off,none⟩) n c,.func (.func 117) #[.pointer (some ⟨b,0,none⟩)] #[],.int .i64 (d:Int)] 73)).alloc (.cells #[.int .i64 12,.int .i64 nn,.int .i64 pl,.string tx,.slice (some ⟨bk,ok,none⟩) 2 cK] 37))
 have HW0:=Lib.hid (((Kp.refl w0.heap.size b w).alloc hbw (.cells #[.slice (some ⟨bA,off,none⟩) n c,.func (.func 117) #[.pointer (some ⟨b,0,none⟩)] #[],.int .i64 (d:Int)] 73)).alloc (by rw[World.size_alloc];omega) (.cells #[.int .i64 12,.int .i64 nn,.int .i64 pl,.string tx,.slice (some ⟨bk,ok,none⟩) 2 cK] 37))
 clear hln hb2 hb h hl hpl hks hk hx hckw hck0 z5
 go_enter Tryz.func246,Tryz.ntmps246
 go_wp2_with (go_at_call 190;refine(HI.out _ _ HP0.out (by have:=HL.out;simp only[List.length_append,List.length_cons,List.length_nil]at this ⊢;omega)).mono ?_)
 rintro e w1 ⟨rfl,hp1,hk1⟩
 have hx1:=HX0.out.kp hk1 (by omega) (by omega) hbk
 have HX1:=Lib.hid hx1
 have HP1:=Lib.hid hp1
 have HW1:=Lib.hid (HW0.out.trans hk1)
 have e0:=(hx1.1.cell 0).trans rfl
 have e1:=(hx1.1.cell 1).trans rfl
 have e2:=(hx1.1.cell 2).trans rfl
 have hb1:=HB.out.trans HW1.out.1
 clear HX0 HP0 HW0 hp1 hk1 hx1
 go_wp2_with (go_at_call 72;refine(HLN.out _ _ hb1 HP1.out (by have:=HL.out;simp only[List.length_append,List.length_cons,List.length_nil]at this ⊢;omega)).mono ?_)
 rintro e w2 ⟨rfl,hp2,hk2⟩
 have hx2:=HX1.out.kp hk2 (by omega) (by omega) hbk
 have HX2:=Lib.hid hx2
 have HP2:=Lib.hid hp2
 have HW2:=Lib.hid (HW1.out.trans hk2)
 clear e0 e1 e2
 have e0:=(hx2.1.cell 0).trans rfl
 have e1:=(hx2.1.cell 1).trans rfl
 have e2:=(hx2.1.cell 2).trans rfl
 have n0:=(hx2.2.1.cell 0).trans rfl
 have n3:=(hx2.2.1.cell 3).trans rfl
 clear HX1 HP1 HW1 hp2 hk2 hx2 hb1
 go_upto_region 12 with(fail)
 obtain⟨W5,hW5⟩:∃W5:World,{ w2 with drawn:=w2.drawn+1 }=W5:=⟨_,rfl⟩
 have hkd:Kp w0.heap.size b w2 W5:=by rw[← hW5];exact⟨Below.drew (Below.refl _ _),(Lib.OthersKept.refl _ _ w2).drew⟩
 have hS:=HX2.out.kp hkd (by omega) (by omega) hbk
 have hP5:=(show∀T,Pg w0.heap.size b T w2→Pg w0.heap.size b T W5 from fun T q=>by rw[← hW5];exact q) _ HP2.out
 have hw5:=HW2.out.trans hkd
 have hb5:=HB.out.trans hw5.1
 refine wp_region_held (S:=SI w.heap.size [.slice (some ⟨bA,off,none⟩) n c,.func (.func 117) #[.pointer (some ⟨b,0,none⟩)] #[],.int .i64 (d:Int)] [.int .i64 12,.int .i64 nn,.int .i64 pl,.string tx,.slice (some ⟨bk,ok,none⟩) 2 cK] bk ok [(a:Int),(k2:Int)]) (by kernel_rfl) ?_
 rw[hW5]
 clear hW5
 refine hpu 0 (.agg #[.slice (some ⟨bA,off,none⟩) n c,.func (.func 117) #[.pointer (some ⟨b,0,none⟩)] #[],.int .i64 (d:Int)]) (by kernel_rfl) rfl rfl (fun _ _ _ h=>h) rfl (y_load rfl rfl (fun w' q=>run_load73 ((q.1.cell 0).trans rfl) ((q.1.cell 1).trans rfl) ((q.1.cell 2).trans rfl))) hS ?_
 simp only[ap]
 refine hpu 1 (.pointer (some ⟨w.heap.size+1,4,none⟩)) (by kernel_rfl) rfl rfl (fun _ _ _ h=>h) rfl (y_field rfl rfl (run_field37_4 _)) hS ?_
 simp only[ap]
 refine hpu 2 (.slice (some ⟨bk,ok,none⟩) 2 cK) (by kernel_rfl) rfl rfl (fun _ _ _ h=>h) rfl (y_load rfl rfl (fun w' q=>run_load35x ((q.2.1.cell 4).trans rfl))) hS ?_
 simp only[ap]
 refine hpu 3 (.pointer (some ⟨bk,ok+1,none⟩)) (by kernel_rfl) rfl rfl (fun _ _ _ h=>h) rfl (y_index rfl rfl rfl (fun w=>run_index35 bk ok 2 cK 1 (by decide) w)) hS ?_
 simp only[ap]
 refine hpu 4 (.int .i64 (k2:Int)) (by kernel_rfl) rfl rfl (fun _ _ _ h=>h) rfl (y_load rfl rfl (fun w' q=>run_load3 ((q.2.2 1 (by simp)).trans rfl))) hS ?_
 simp only[ap]
 refine h_callx 5 ({ dst:=some 57,op:=Op.call { callee:=Callee.value (Operand.func 194),args := #[Operand.tmp 52,Operand.tmp 56,Operand.const (Value.slice none 0 0)],argTypes := #[73,3,35] },type:=0,pos := "printer.go:115",after := #[{ on:=0,ground:=Ground.data },{ on:=4,ground:=Ground.data }],guard:=none }:Oper) (args := #[.agg #[.slice (some ⟨bA,off,none⟩) n c,.func (.func 117) #[.pointer (some ⟨b,0,none⟩)] #[],.int .i64 (d:Int)],.int .i64 (k2:Int),.slice none 0 0]) own194x rfl rfl (by kernel_rfl) rfl rfl (HB2.out _ _ hb5 hP5 (by have:=HL.out;simp only[List.length_append,List.length_cons,List.length_nil]at this ⊢;omega)) ?_
 rintro e W6 ⟨rfl,hp6,hk6⟩
 have hS6:=hS.kp hk6 (by omega) (by omega) hbk
 refine .inr ⟨_,rfl,hS6,?_⟩
 simp only[ap]
 refine wpAnyH_done (by kernel_rfl) ?_ _
 have HX6:=Lib.hid hS6
 have HP6:=Lib.hid hp6
 have HW6:=Lib.hid (hw5.trans hk6)
 clear hS hP5 hw5 hkd hb5 HX2 HP2 HW2 hp6 hk6 e0 e1 e2 n0 n3
 have e1:=(hS6.1.cell 1).trans rfl
 have n0:=True.intro
 have n3:=True.intro
 clear hS6
 clear n0 n3
 go_wp2_with (go_at_call 117;refine(write_new w0.heap.size b _ [[10]] _ HP6.out (by have:=HL.out;simp only[List.length_append,List.length_cons,List.length_nil,List.flatten_cons,List.flatten_nil]at this ⊢;omega) (by simp) 1 rfl _ (by rfl) _ rfl).mono ?_)
 rintro e w9 ⟨rfl,hp9,hk9⟩
 have HP9:=Lib.hid hp9
 have HW9:=Lib.hid (HW6.out.trans hk9)
 clear hp9 hk9 e1
 go_wp2
 go_end0
 exact⟨rfl,by simpa using HP9.out,HW9.out⟩
theorem st_p {w0:World}{A:Option Addr}{l:List Tr.Nd}{n:Nat}(c b d:Nat)(hx:Px0 w0 A l n)(p:Nat)(yl:List UInt8)(t:List UInt8)(w:World)(hp:p<n)(hd:d≤100000)(hk11:(ndA l p).kd≠11)(hk12:(ndA l p).kd≠12)(hk16:(ndA l p).kd≠16)
  (hln:∀t' w',Below w0.heap.size w0 w'→Pg w0.heap.size b t' w'→t'.length+yl.length≤140737488355328→Calls Tryz.prog 72 #[PV A n c b (d:Int),.int .i64 (p:Int)] w' (WrPost w0.heap.size b (t'++yl) (.tuple #[]) w'))
  (hb:Below w0.heap.size w0 w) (h:Pg w0.heap.size b t w) (hl:t.length+(indT d++yl++[59]++[10]).length≤140737488355328):Calls Tryz.prog 246 #[PV A n c b (d:Int),.int .i64 (p:Int)] w (WrPost w0.heap.size b (t++(indT d++yl++[59]++[10])) (.tuple #[]) w):=by
 have hpl:p<l.length:=by rw[← hx.len];exact hp
 obtain⟨bA,off,K,cK,rfl,hlt,c0,c1,c2,c3,c4,z5⟩:=node_at hx.nds hb p hpl
 rw[← ndA_eq hpl]at c0 c1 c2 c3 c4 z5
 have HI:=Lib.hid (fun t' w' (h':Pg w0.heap.size b t' w') (hl':t'.length+(indT d).length≤140737488355328)=>indent_pg (B:=w0.heap.size) (some ⟨bA,off,none⟩) n c b d t' w' (by omega) h' hl')
 have HLN:=Lib.hid hln
 generalize indT d=yi at *
 have HL:=Lib.hid hl
 have HB:=Lib.hid hb
 have H:=Lib.hid h
 have hbw:=h.bw
 have hbl:=h.lt
 have hsz:=hb.size
 unfold PV at HI HLN
 unfold PV
 have hpz:(p:Int)<(n:Int):=by omega
 generalize (ndA l p).kd=kk at *
 generalize (ndA l p).ks.length=nk at *
 generalize (ndA l p).tx=tx at *
 generalize (ndA l p).n=nn at *
 generalize (ndA l p).pl=pl at *
 have HX0:=Lib.hid (s2_new w [.slice (some ⟨bA,off,none⟩) n c,.func (.func 117) #[.pointer (some ⟨b,0,none⟩)] #[],.int .i64 (d:Int)] [.int .i64 kk,.int .i64 nn,.int .i64 pl,.string tx,.slice K nk cK])
 have HP0:=Lib.hid ((h.alloc (.cells #[.slice (some ⟨bA,off,none⟩) n c,.func (.func 117) #[.pointer (some ⟨b,0,none⟩)] #[],.int .i64 (d:Int)] 73)).alloc (.cells #[.int .i64 kk,.int .i64 nn,.int .i64 pl,.string tx,.slice K nk cK] 37))
 have HW0:=Lib.hid (((Kp.refl w0.heap.size b w).alloc hbw (.cells #[.slice (some ⟨bA,off,none⟩) n c,.func (.func 117) #[.pointer (some ⟨b,0,none⟩)] #[],.int .i64 (d:Int)] 73)).alloc (by rw[World.size_alloc];omega) (.cells #[.int .i64 kk,.int .i64 nn,.int .i64 pl,.string tx,.slice K nk cK] 37))
 clear hln hb h hl hpl hx z5
 go_enter Tryz.func246,Tryz.ntmps246
 go_wp2_with (go_at_call 190;refine(HI.out _ _ HP0.out (by have:=HL.out;simp only[List.length_append,List.length_cons,List.length_nil]at this ⊢;omega)).mono ?_)
 rintro e w1 ⟨rfl,hp1,hk1⟩
 have hx1:=HX0.out.kp hk1 (by omega) (by omega)
 have HX1:=Lib.hid hx1
 have HP1:=Lib.hid hp1
 have HW1:=Lib.hid (HW0.out.trans hk1)
 have e0:=(hx1.1.cell 0).trans rfl
 have e1:=(hx1.1.cell 1).trans rfl
 have e2:=(hx1.1.cell 2).trans rfl
 have hb1:=HB.out.trans HW1.out.1
 clear HX0 HP0 HW0 hp1 hk1 hx1
 go_wp2_with (go_at_call 72;refine(HLN.out _ _ hb1 HP1.out (by have:=HL.out;simp only[List.length_append,List.length_cons,List.length_nil]at this ⊢;omega)).mono ?_)
 rintro e w2 ⟨rfl,hp2,hk2⟩
 have hx2:=HX1.out.kp hk2 (by omega) (by omega)
 have HX2:=Lib.hid hx2
 have HP2:=Lib.hid hp2
 have HW2:=Lib.hid (HW1.out.trans hk2)
 clear e0 e1 e2
 have e0:=(hx2.1.cell 0).trans rfl
 have e1:=(hx2.1.cell 1).trans rfl
 have e2:=(hx2.1.cell 2).trans rfl
 have n0:=(hx2.2.cell 0).trans rfl
 have n3:=(hx2.2.cell 3).trans rfl
 clear HX1 HP1 HW1 hp2 hk2 hx2 hb1
 go_wp2_with (go_at_call 117;refine(write_new w0.heap.size b _ [[59]] _ HP2.out (by have:=HL.out;simp only[List.length_append,List.length_cons,List.length_nil,List.flatten_cons,List.flatten_nil]at this ⊢;omega) (by simp) 1 rfl _ (by rfl) _ rfl).mono ?_)
 rintro e w3 ⟨rfl,hp3,hk3⟩
 have hx3:=HX2.out.kp hk3 (by omega) (by omega)
 have HP3:=Lib.hid hp3
 have HW3:=Lib.hid (HW2.out.trans hk3)
 clear e0 e1 e2 n0 n3 HX2 HP2 HW2
 have e1:=(hx3.1.cell 1).trans rfl
 have n0:=True.intro
 have n3:=True.intro
 clear hp3 hk3 hx3
 clear n0 n3
 go_wp2_with (go_at_call 117;refine(write_new w0.heap.size b _ [[10]] _ HP3.out (by have:=HL.out;simp only[List.length_append,List.length_cons,List.length_nil,List.flatten_cons,List.flatten_nil]at this ⊢;omega) (by simp) 1 rfl _ (by rfl) _ rfl).mono ?_)
 rintro e w9 ⟨rfl,hp9,hk9⟩
 have HP9:=Lib.hid hp9
 have HW9:=Lib.hid (HW3.out.trans hk9)
 clear hp9 hk9 e1
 go_wp2
 go_end0
 exact⟨rfl,by simpa using HP9.out,HW9.out⟩
theorem st_16 {w0:World}{A:Option Addr}{l:List Tr.Nd}{n:Nat}(c b d:Nat)(hx:Px0 w0 A l n)(p:Nat)(k1 k2:Nat)(yl:List UInt8)(y1 y2:List UInt8)(t:List UInt8)(w:World)(hp:p<n)(hd:d≤100000)(hk:(ndA l p).kd=16)(hks:(ndA l p).ks=[(k1:Int),(k2:Int)])
  (hln:∀t' w',Below w0.heap.size w0 w'→Pg w0.heap.size b t' w'→t'.length+yl.length≤140737488355328→Calls Tryz.prog 72 #[PV A n c b (d:Int),.int .i64 (p:Int)] w' (WrPost w0.heap.size b (t'++yl) (.tuple #[]) w'))
  (hb1:∀t' w',Below w0.heap.size w0 w'→Pg w0.heap.size b t' w'→t'.length+y1.length≤140737488355328→Calls Tryz.prog 194 #[PV A n c b (d:Int),.int .i64 (k1:Int),.slice none 0 0] w' (WrPost w0.heap.size b (t'++y1) (.tuple #[]) w'))
  (hb2:∀t' w',Below w0.heap.size w0 w'→Pg w0.heap.size b t' w'→t'.length+y2.length≤140737488355328→Calls Tryz.prog 194 #[PV A n c b (d:Int),.int .i64 (k2:Int),.slice none 0 0] w' (WrPost w0.heap.size b (t'++y2) (.tuple #[]) w'))
  (hb:Below w0.heap.size w0 w) (h:Pg w0.heap.size b t w) (hl:t.length+(indT d++yl++(y1++[32,99,97,116,99,104,32]++(ndA l p).tx.data.toList++y2)++[10]).length≤140737488355328):Calls Tryz.prog 246 #[PV A n c b (d:Int),.int .i64 (p:Int)] w (WrPost w0.heap.size b (t++(indT d++yl++(y1++[32,99,97,116,99,104,32]++(ndA l p).tx.data.toList++y2)++[10])) (.tuple #[]) w):=by
 have hpl:p<l.length:=by rw[← hx.len];exact hp
 obtain⟨bA,off,K,cK,rfl,hlt,c0,c1,c2,c3,c4,z5⟩:=node_at hx.nds hb p hpl
 rw[← ndA_eq hpl]at c0 c1 c2 c3 c4 z5
 rw[hk]at c0
 have hpz:(p:Int)<(n:Int):=by omega
 rw[hks]at c4 z5
 have c4:w.cell? ⟨bA,off+p*5+4,none⟩=some (.slice K 2 cK):=c4
 obtain⟨bk,ok,rfl,hbk,hck0⟩:=z5 (by simp)
 have hckw:∀j (hj:j<([(k1:Int),(k2:Int)]:List Int).length),w.cell? ⟨bk,ok+j,none⟩=some (.int .i64 ([(k1:Int),(k2:Int)]:List Int)[j]):=fun j hj=>(hb.cell (p:=⟨bk,ok+j,none⟩) hbk).trans (hck0 j hj)
 have HI:=Lib.hid (fun t' w' (h':Pg w0.heap.size b t' w') (hl':t'.length+(indT d).length≤140737488355328)=>indent_pg (B:=w0.heap.size) (some ⟨bA,off,none⟩) n c b d t' w' (by omega) h' hl')
 have HLN:=Lib.hid hln
 have HB1:=Lib.hid hb1
 have HB2:=Lib.hid hb2
 generalize indT d=yi at *
 have HL:=Lib.hid hl
 have HB:=Lib.hid hb
 have H:=Lib.hid h
 have hbw:=h.bw
 have hbl:=h.lt
 have hsz:=hb.size
 unfold PV at HI HLN HB1 HB2
 unfold PV
 generalize (ndA l p).n=nn at *
 generalize (ndA l p).pl=pl at *
 generalize (ndA l p).tx=tx at *
 have HX0:=Lib.hid (show SI w.heap.size [.slice (some ⟨bA,off,none⟩) n c,.func (.func 117) #[.pointer (some ⟨b,0,none⟩)] #[],.int .i64 (d:Int)] [.int .i64 16,.int .i64 nn,.int .i64 pl,.string tx,.slice (some ⟨bk,ok,none⟩) 2 cK] bk ok [(k1:Int),(k2:Int)] ((w.alloc (.cells #[.slice (some ⟨bA,off,none⟩) n c,.func (.func 117) #[.pointer (some ⟨b,0,none⟩)] #[],.int .i64 (d:Int)] 73)).alloc (.cells #[.int .i64 16,.int .i64 nn,.int .i64 pl,.string tx,.slice (some ⟨bk,ok,none⟩) 2 cK] 37)) by
  have b1:=s2_new w [.slice (some ⟨bA,off,none⟩) n c,.func (.func 117) #[.pointer (some ⟨b,0,none⟩)] #[],.int .i64 (d:Int)] [.int .i64 16,.int .i64 nn,.int .i64 pl,.string tx,.slice (some ⟨bk,ok,none⟩) 2 cK]
  have hb2:Below w.heap.size w ((w.alloc (.cells #[.slice (some ⟨bA,off,none⟩) n c,.func (.func 117) #[.pointer (some ⟨b,0,none⟩)] #[],.int .i64 (d:Int)] 73)).alloc (.cells #[.int .i64 16,.int .i64 nn,.int .i64 pl,.string tx,.slice (some ⟨bk,ok,none⟩) 2 cK] 37)):=((Below.refl _ _).alloc (Nat.le_refl _) _).alloc (by rw[World.size_alloc];omega) _
  exact⟨b1.1,b1.2,fun j hj=>(hb2.cell (p:=⟨bk,ok+j,none⟩) (by show bk<w.heap.size;omega)).trans (hckw j hj)⟩)
 have HP0:=Lib.hid ((h.alloc (.cells #[.slice (some ⟨bA,off,none⟩) n c,.func (.func 117) #[.pointer (some ⟨b,0,none⟩)] #[],.int .i64 (d:Int)] 73)).alloc (.cells #[.int .i64 16,.int .i64 nn,.int .i64 pl,.string tx,.slice (some ⟨bk,ok,none⟩) 2 cK] 37))
 have HW0:=Lib.hid (((Kp.refl w0.heap.size b w).alloc hbw (.cells #[.slice (some ⟨bA,off,none⟩) n c,.func (.func 117) #[.pointer (some ⟨b,0,none⟩)] #[],.int .i64 (d:Int)] 73)).alloc (by rw[World.size_alloc];omega) (.cells #[.int .i64 16,.int .i64 nn,.int .i64 pl,.string tx,.slice (some ⟨bk,ok,none⟩) 2 cK] 37))
 clear hln hb1 hb2 hb h hl hpl hks hk hx hckw hck0 z5
 go_enter Tryz.func246,Tryz.ntmps246
 go_wp2_with (go_at_call 190;refine(HI.out _ _ HP0.out (by have:=HL.out;simp only[List.length_append,List.length_cons,List.length_nil]at this ⊢;omega)).mono ?_)
 rintro e w1 ⟨rfl,hp1,hk1⟩
 have hx1:=HX0.out.kp hk1 (by omega) (by omega) hbk
 have HX1:=Lib.hid hx1
 have HP1:=Lib.hid hp1
 have HW1:=Lib.hid (HW0.out.trans hk1)
 have e0:=(hx1.1.cell 0).trans rfl
 have e1:=(hx1.1.cell 1).trans rfl
 have e2:=(hx1.1.cell 2).trans rfl
 have hb1:=HB.out.trans HW1.out.1
 clear HX0 HP0 HW0 hp1 hk1 hx1
 go_wp2_with (go_at_call 72;refine(HLN.out _ _ hb1 HP1.out (by have:=HL.out;simp only[List.length_append,List.length_cons,List.length_nil]at this ⊢;omega)).mono ?_)
 rintro e w2 ⟨rfl,hp2,hk2⟩
 have hx2:=HX1.out.kp hk2 (by omega) (by omega) hbk
 have HX2:=Lib.hid hx2
 have HP2:=Lib.hid hp2
 have HW2:=Lib.hid (HW1.out.trans hk2)
 clear e0 e1 e2
 have e0:=(hx2.1.cell 0).trans rfl
 have e1:=(hx2.1.cell 1).trans rfl
 have e2:=(hx2.1.cell 2).trans rfl
 have n0:=(hx2.2.1.cell 0).trans rfl
 have n3:=(hx2.2.1.cell 3).trans rfl
 clear HX1 HP1 HW1 hp2 hk2 hx2 hb1
 go_upto_region 14 with(fail)
 obtain⟨W5,hW5⟩:∃W5:World,{ w2 with drawn:=w2.drawn+1 }=W5:=⟨_,rfl⟩
 have hkd:Kp w0.heap.size b w2 W5:=by rw[← hW5];exact⟨Below.drew (Below.refl _ _),(Lib.OthersKept.refl _ _ w2).drew⟩
 have hS:=HX2.out.kp hkd (by omega) (by omega) hbk
 have hP5:=(show∀T,Pg w0.heap.size b T w2→Pg w0.heap.size b T W5 from fun T q=>by rw[← hW5];exact q) _ HP2.out
 have hw5:=HW2.out.trans hkd
 have hb5:=HB.out.trans hw5.1
 refine wp_region_held (S:=SI w.heap.size [.slice (some ⟨bA,off,none⟩) n c,.func (.func 117) #[.pointer (some ⟨b,0,none⟩)] #[],.int .i64 (d:Int)] [.int .i64 16,.int .i64 nn,.int .i64 pl,.string tx,.slice (some ⟨bk,ok,none⟩) 2 cK] bk ok [(k1:Int),(k2:Int)]) (by kernel_rfl) ?_
 rw[hW5]
 clear hW5
 refine hpu 0 (.agg #[.slice (some ⟨bA,off,none⟩) n c,.func (.func 117) #[.pointer (some ⟨b,0,none⟩)] #[],.int .i64 (d:Int)]) (by kernel_rfl) rfl rfl (fun _ _ _ h=>h) rfl (y_load rfl rfl (fun w' q=>run_load73 ((q.1.cell 0).trans rfl) ((q.1.cell 1).trans rfl) ((q.1.cell 2).trans rfl))) hS ?_
 simp only[ap]
 refine hpu 1 (.pointer (some ⟨w.heap.size+1,4,none⟩)) (by kernel_rfl) rfl rfl (fun _ _ _ h=>h) rfl (y_field rfl rfl (run_field37_4 _)) hS ?_
 simp only[ap]
 refine hpu 2 (.slice (some ⟨bk,ok,none⟩) 2 cK) (by kernel_rfl) rfl rfl (fun _ _ _ h=>h) rfl (y_load rfl rfl (fun w' q=>run_load35x ((q.2.1.cell 4).trans rfl))) hS ?_
 simp only[ap]
 refine hpu 3 (.pointer (some ⟨bk,ok+0,none⟩)) (by kernel_rfl) rfl rfl (fun _ _ _ h=>h) rfl (y_index rfl rfl rfl (fun w=>run_index35 bk ok 2 cK 0 (by decide) w)) hS ?_
 simp only[ap]
 refine hpu 4 (.int .i64 (k1:Int)) (by kernel_rfl) rfl rfl (fun _ _ _ h=>h) rfl (y_load rfl rfl (fun w' q=>run_load3 ((q.2.2 0 (by simp)).trans rfl))) hS ?_
 simp only[ap]
 refine h_callx 5 ({ dst:=some 65,op:=Op.call { callee:=Callee.value (Operand.func 194),args := #[Operand.tmp 60,Operand.tmp 64,Operand.const (Value.slice none 0 0)],argTypes := #[73,3,35] },type:=0,pos := "printer.go:117",after := #[{ on:=0,ground:=Ground.data },{ on:=4,ground:=Ground.data }],guard:=none }:Oper) (args := #[.agg #[.slice (some ⟨bA,off,none⟩) n c,.func (.func 117) #[.pointer (some ⟨b,0,none⟩)] #[],.int .i64 (d:Int)],.int .i64 (k1:Int),.slice none 0 0]) own194x rfl rfl (by kernel_rfl) rfl rfl (HB1.out _ _ hb5 hP5 (by have:=HL.out;simp only[List.length_append,List.length_cons,List.length_nil]at this ⊢;omega)) ?_
 rintro e W6 ⟨rfl,hp6,hk6⟩
 have hS6:=hS.kp hk6 (by omega) (by omega) hbk
 refine .inr ⟨_,rfl,hS6,?_⟩
 simp only[ap]
 refine wpAnyH_done (by kernel_rfl) ?_ _
 have HX6:=Lib.hid hS6
 have HP6:=Lib.hid hp6
 have HW6:=Lib.hid (hw5.trans hk6)
 clear hS hP5 hw5 hkd hb5 HX2 HP2 HW2 hp6 hk6 e0 e1 e2 n0 n3
 have e1:=(hS6.1.cell 1).trans rfl
 have n3:=(hS6.2.1.cell 3).trans rfl
 clear hS6
 go_wp2_with (go_at_call 117;refine(write_new w0.heap.size b _ [[32,99,97,116,99,104,32],tx.data.toList] _ HP6.out (by have:=HL.out;simp only[List.length_append,List.length_cons,List.length_nil,List.flatten_cons,List.flatten_nil]at this ⊢;omega) (by simp) 2 rfl _ (by simp[bsX_of];rfl) _ rfl).mono ?_)
 rintro e w7 ⟨rfl,hp7,hk7⟩
 have HX7:=Lib.hid (HX6.out.kp hk7 (by omega) (by omega) hbk)
 have HP7:=Lib.hid hp7
 have HW7:=Lib.hid (HW6.out.trans hk7)
 clear HX6 HP6 HW6 hp7 hk7 e1 n3
 go_upto_region 16 with(fail)
 obtain⟨W5,hW5⟩:∃W5:World,{ w7 with drawn:=w7.drawn+1 }=W5:=⟨_,rfl⟩
 have hkd:Kp w0.heap.size b w7 W5:=by rw[← hW5];exact⟨Below.drew (Below.refl _ _),(Lib.OthersKept.refl _ _ w7).drew⟩
 have hS:=HX7.out.kp hkd (by omega) (by omega) hbk
 have hP5:=(show∀T,Pg w0.heap.size b T w7→Pg w0.heap.size b T W5 from fun T q=>by rw[← hW5];exact q) _ HP7.out
 have hw5:=HW7.out.trans hkd
 have hb5:=HB.out.trans hw5.1
 refine wp_region_held (S:=SI w.heap.size [.slice (some ⟨bA,off,none⟩) n c,.func (.func 117) #[.pointer (some ⟨b,0,none⟩)] #[],.int .i64 (d:Int)] [.int .i64 16,.int .i64 nn,.int .i64 pl,.string tx,.slice (some ⟨bk,ok,none⟩) 2 cK] bk ok [(k1:Int),(k2:Int)]) (by kernel_rfl) ?_
 rw[hW5]
 clear hW5
 refine hpu 0 (.agg #[.slice (some ⟨bA,off,none⟩) n c,.func (.func 117) #[.pointer (some ⟨b,0,none⟩)] #[],.int .i64 (d:Int)]) (by kernel_rfl) rfl rfl (fun _ _ _ h=>h) rfl (y_load rfl rfl (fun w' q=>run_load73 ((q.1.cell 0).trans rfl) ((q.1.cell 1).trans rfl) ((q.1.cell 2).trans rfl))) hS ?_
 simp only[ap]
 refine hpu 1 (.pointer (some ⟨w.heap.size+1,4,none⟩)) (by kernel_rfl) rfl rfl (fun _ _ _ h=>h) rfl (y_field rfl rfl (run_field37_4 _)) hS ?_
 simp only[ap]
 refine hpu 2 (.slice (some ⟨bk,ok,none⟩) 2 cK) (by kernel_rfl) rfl rfl (fun _ _ _ h=>h) rfl (y_load rfl rfl (fun w' q=>run_load35x ((q.2.1.cell 4).trans rfl))) hS ?_
 simp only[ap]
 refine hpu 3 (.pointer (some ⟨bk,ok+1,none⟩)) (by kernel_rfl) rfl rfl (fun _ _ _ h=>h) rfl (y_index rfl rfl rfl (fun w=>run_index35 bk ok 2 cK 1 (by decide) w)) hS ?_
 simp only[ap]
 refine hpu 4 (.int .i64 (k2:Int)) (by kernel_rfl) rfl rfl (fun _ _ _ h=>h) rfl (y_load rfl rfl (fun w' q=>run_load3 ((q.2.2 1 (by simp)).trans rfl))) hS ?_
 simp only[ap]
 refine h_callx 5 ({ dst:=some 77,op:=Op.call { callee:=Callee.value (Operand.func 194),args := #[Operand.tmp 72,Operand.tmp 76,Operand.const (Value.slice none 0 0)],argTypes := #[73,3,35] },type:=0,pos := "printer.go:119",after := #[{ on:=0,ground:=Ground.data },{ on:=4,ground:=Ground.data }],guard:=none }:Oper) (args := #[.agg #[.slice (some ⟨bA,off,none⟩) n c,.func (.func 117) #[.pointer (some ⟨b,0,none⟩)] #[],.int .i64 (d:Int)],.int .i64 (k2:Int),.slice none 0 0]) own194x rfl rfl (by kernel_rfl) rfl rfl (HB2.out _ _ hb5 hP5 (by have:=HL.out;simp only[List.length_append,List.length_cons,List.length_nil,List.flatten_cons,List.flatten_nil]at this ⊢;omega)) ?_
 rintro e W6 ⟨rfl,hp6,hk6⟩
 have hS6:=hS.kp hk6 (by omega) (by omega) hbk
 refine .inr ⟨_,rfl,hS6,?_⟩
 simp only[ap]
 refine wpAnyH_done (by kernel_rfl) ?_ _
 have HX8:=Lib.hid hS6
 have HP8:=Lib.hid hp6
 have HW8:=Lib.hid (hw5.trans hk6)
 clear hS hP5 hw5 hkd hb5 HX7 HP7 HW7 hp6 hk6
 have e1:=(hS6.1.cell 1).trans rfl
 have n0:=True.intro
 have n3:=True.intro
 clear hS6
 clear n0 n3
 go_wp2_with (go_at_call 117;refine(write_new w0.heap.size b _ [[10]] _ HP8.out (by have:=HL.out;simp only[List.length_append,List.length_cons,List.length_nil,List.flatten_cons,List.flatten_nil]at this ⊢;omega) (by simp) 1 rfl _ (by rfl) _ rfl).mono ?_)
 rintro e w9 ⟨rfl,hp9,hk9⟩
 have HP9:=Lib.hid hp9
 have HW9:=Lib.hid (HW8.out.trans hk9)
 clear hp9 hk9 e1
 go_wp2
 go_end0
 exact⟨rfl,by simpa using HP9.out,HW9.out⟩
theorem gtr_yes {m:Nat}(h:0<m)(w:World):(binOp .gtr 3 (.int .i64 (m:Int)) (.int .i64 0)).run Tryz.prog w = .ok (.bool true) w:=by
 simp[go_sem]
 exact h
theorem gtr_no (w:World):(binOp .gtr 3 (.int .i64 ((0:Nat):Int)) (.int .i64 0)).run Tryz.prog w = .ok (.bool false) w:=by kernel_rfl
theorem st_11n {w0:World}{A:Option Addr}{l:List Tr.Nd}{n:Nat}(c b d:Nat)(hx:Px0 w0 A l n)(p:Nat)(a k2 k3:Nat)(yl:List UInt8)(y2:List UInt8)(t:List UInt8)(w:World)(hp:p<n)(hd:d≤100000)(hk:(ndA l p).kd=11)(hks:(ndA l p).ks=[(a:Int),(k2:Int),(k3:Int)])
  (hln:∀t' w',Below w0.heap.size w0 w'→Pg w0.heap.size b t' w'→t'.length+yl.length≤140737488355328→Calls Tryz.prog 72 #[PV A n c b (d:Int),.int .i64 (p:Int)] w' (WrPost w0.heap.size b (t'++yl) (.tuple #[]) w'))
  (hb2:∀t' w',Below w0.heap.size w0 w'→Pg w0.heap.size b t' w'→t'.length+y2.length≤140737488355328→Calls Tryz.prog 194 #[PV A n c b (d:Int),.int .i64 (k2:Int),.slice none 0 0] w' (WrPost w0.heap.size b (t'++y2) (.tuple #[]) w'))
  (hk3:k3<n) (he:(ndA l k3).ks=[])
  (hb:Below w0.heap.size w0 w) (h:Pg w0.heap.size b t w) (hl:t.length+(indT d++yl++(y2)++[10]).length≤140737488355328):Calls Tryz.prog 246 #[PV A n c b (d:Int),.int .i64 (p:Int)] w (WrPost w0.heap.size b (t++(indT d++yl++(y2)++[10])) (.tuple #[]) w):=by
 have hpl:p<l.length:=by rw[← hx.len];exact hp
 obtain⟨bA,off,K,cK,rfl,hlt,c0,c1,c2,c3,c4,z5⟩:=node_at hx.nds hb p hpl
 rw[← ndA_eq hpl]at c0 c1 c2 c3 c4 z5
 rw[hk]at c0
 have hk3l:k3<l.length:=by rw[← hx.len];exact hk3
 obtain⟨bA2,off2,K3,cq,eA2,hltA,q0,q1,q2,q3,q4,q5⟩:=node_at hx.nds hb k3 hk3l
 injection eA2 with eA2
 injection eA2 with e1 e2
 subst e1 e2
 rw[← ndA_eq hk3l]at q4
 obtain⟨m3,hm3⟩:∃m3,(ndA l k3).ks.length=m3:=⟨_,rfl⟩
 have hm0:m3=0:=by rw[← hm3,he];rfl
 rw[hm3]at q4
 have hbA:bA<w0.heap.size:=by
  obtain⟨bX,oX,eX,hX,_⟩:=hx.nds (by omega)
  injection eX with eX
  injection eX with e1 e2
  rw[e1];exact hX
 clear q0 q1 q2 q3 q5 hm3
 have hpz:(p:Int)<(n:Int):=by omega
 rw[hks]at c4 z5
 have c4:w.cell? ⟨bA,off+p*5+4,none⟩=some (.slice K 3 cK):=c4
 obtain⟨bk,ok,rfl,hbk,hck0⟩:=z5 (by simp)
 have hckw:∀j (hj:j<([(a:Int),(k2:Int),(k3:Int)]:List Int).length),w.cell? ⟨bk,ok+j,none⟩=some (.int .i64 ([(a:Int),(k2:Int),(k3:Int)]:List Int)[j]):=fun j hj=>(hb.cell (p:=⟨bk,ok+j,none⟩) hbk).trans (hck0 j hj)
 have HI:=Lib.hid (fun t' w' (h':Pg w0.heap.size b t' w') (hl':t'.length+(indT d).length≤140737488355328)=>indent_pg (B:=w0.heap.size) (some ⟨bA,off,none⟩) n c b d t' w' (by omega) h' hl')
 have HLN:=Lib.hid hln
 have HB2:=Lib.hid hb2
 generalize indT d=yi at *
 have HL:=Lib.hid hl
 have HB:=Lib.hid hb
 have H:=Lib.hid h
 have hbw:=h.bw
 have hbl:=h.lt
 have hsz:=hb.size
 unfold PV at HI HLN HB2
 unfold PV
 generalize (ndA l p).n=nn at *
 generalize (ndA l p).pl=pl at *
 generalize (ndA l p).tx=tx at *
 have HX0:=Lib.hid (show SJ w.heap.size [.slice (some ⟨bA,off,none⟩) n c,.func (.func 117) #[.pointer (some ⟨b,0,none⟩)] #[],.int .i64 (d:Int)] [.int .i64 11,.int .i64 nn,.int .i64 pl,.string tx,.slice (some ⟨bk,ok,none⟩) 3 cK] bk ok [(a:Int),(k2:Int),(k3:Int)] bA (off+k3*5+4) (.slice K3 m3 cq) ((w.alloc (.cells #[.slice (some ⟨bA,off,none⟩) n c,.func (.func 117) #[.pointer (some ⟨b,0,none⟩)] #[],.int .i64 (d:Int)] 73)).alloc (.cells #[.int .i64 11,.int .i64 nn,.int .i64 pl,.string tx,.slice (some ⟨bk,ok,none⟩) 3 cK] 37)) by
  have b1:=s2_new w [.slice (some ⟨bA,off,none⟩) n c,.func (.func 117) #[.pointer (some ⟨b,0,none⟩)] #[],.int .i64 (d:Int)] [.int .i64 11,.int .i64 nn,.int .i64 pl,.string tx,.slice (some ⟨bk,ok,none⟩) 3 cK]
  have hb2:Below w.heap.size w ((w.alloc (.cells #[.slice (some ⟨bA,off,none⟩) n c,.func (.func 117) #[.pointer (some ⟨b,0,none⟩)] #[],.int .i64 (d:Int)] 73)).alloc (.cells #[.int .i64 11,.int .i64 nn,.int .i64 pl,.string tx,.slice (some ⟨bk,ok,none⟩) 3 cK] 37)):=((Below.refl _ _).alloc (Nat.le_refl _) _).alloc (by rw[World.size_alloc];omega) _
  exact⟨⟨b1.1,b1.2,fun j hj=>(hb2.cell (p:=⟨bk,ok+j,none⟩) (by show bk<w.heap.size;omega)).trans (hckw j hj)⟩,(hb2.cell (p:=⟨bA,off+k3*5+4,none⟩) (by show bA<w.heap.size;omega)).trans q4⟩)
 have HP0:=Lib.hid ((h.alloc (.cells #[.slice (some ⟨bA,off,none⟩) n c,.func (.func 117) #[.pointer (some ⟨b,0,none⟩)] #[],.int .i64 (d:Int)] 73)).alloc (.cells #[.int .i64 11,.int .i64 nn,.int .i64 pl,.string tx,.slice (some ⟨bk,ok,none⟩) 3 cK] 37))
 have HW0:=Lib.hid (((Kp.refl w0.heap.size b w).alloc hbw (.cells #[.slice (some ⟨bA,off,none⟩) n c,.func (.func 117) #[.pointer (some ⟨b,0,none⟩)] #[],.int .i64 (d:Int)] 73)).alloc (by rw[World.size_alloc];omega) (.cells #[.int .i64 11,.int .i64 nn,.int .i64 pl,.string tx,.slice (some ⟨bk,ok,none⟩) 3 cK] 37))
 clear hln hb2 hb h hl hpl hks hk hx hckw hck0 z5 q4 he hk3l
 go_enter Tryz.func246,Tryz.ntmps246
 go_wp2_with (go_at_call 190;refine(HI.out _ _ HP0.out (by have:=HL.out;simp only[List.length_append,List.length_cons,List.length_nil]at this ⊢;omega)).mono ?_)
 rintro e w1 ⟨rfl,hp1,hk1⟩
 have hx1:=HX0.out.kp hk1 (by omega) (by omega) hbk hbA
 have HX1:=Lib.hid hx1
 have HP1:=Lib.hid hp1
 have HW1:=Lib.hid (HW0.out.trans hk1)
 have e0:=(hx1.1.1.cell 0).trans rfl
 have e1:=(hx1.1.1.cell 1).trans rfl
 have e2:=(hx1.1.1.cell 2).trans rfl
 have hb1:=HB.out.trans HW1.out.1
 clear HX0 HP0 HW0 hp1 hk1 hx1
 go_wp2_with (go_at_call 72;refine(HLN.out _ _ hb1 HP1.out (by have:=HL.out;simp only[List.length_append,List.length_cons,List.length_nil]at this ⊢;omega)).mono ?_)
 rintro e w2 ⟨rfl,hp2,hk2⟩
 have hx2:=HX1.out.kp hk2 (by omega) (by omega) hbk hbA
 have HX2:=Lib.hid hx2
 have HP2:=Lib.hid hp2
 have HW2:=Lib.hid (HW1.out.trans hk2)
 clear e0 e1 e2
 have e0:=(hx2.1.1.cell 0).trans rfl
 have e1:=(hx2.1.1.cell 1).trans rfl
 have e2:=(hx2.1.1.cell 2).trans rfl
 have n0:=(hx2.1.2.1.cell 0).trans rfl
 have n3:=(hx2.1.2.1.cell 3).trans rfl
 clear HX1 HP1 HW1 hp2 hk2 hx2 hb1
 go_upto_region 7 with(fail)
 obtain⟨W5,hW5⟩:∃W5:World,{ w2 with drawn:=w2.drawn+1 }=W5:=⟨_,rfl⟩
 have hkd:Kp w0.heap.size b w2 W5:=by rw[← hW5];exact⟨Below.drew (Below.refl _ _),(Lib.OthersKept.refl _ _ w2).drew⟩
 have hS:=HX2.out.kp hkd (by omega) (by omega) hbk hbA
 have hP5:=(show∀T,Pg w0.heap.size b T w2→Pg w0.heap.size b T W5 from fun T q=>by rw[← hW5];exact q) _ HP2.out
 have hw5:=HW2.out.trans hkd
 have hb5:=HB.out.trans hw5.1
 refine wp_region_held (S:=SJ w.heap.size [.slice (some ⟨bA,off,none⟩) n c,.func (.func 117) #[.pointer (some ⟨b,0,none⟩)] #[],.int .i64 (d:Int)] [.int .i64 11,.int .i64 nn,.int .i64 pl,.string tx,.slice (some ⟨bk,ok,none⟩) 3 cK] bk ok [(a:Int),(k2:Int),(k3:Int)] bA (off+k3*5+4) (.slice K3 m3 cq)) (by kernel_rfl) ?_
 rw[hW5]
 clear hW5
 refine hpu 0 (.agg #[.slice (some ⟨bA,off,none⟩) n c,.func (.func 117) #[.pointer (some ⟨b,0,none⟩)] #[],.int .i64 (d:Int)]) (by kernel_rfl) rfl rfl (fun _ _ _ h=>h) rfl (y_load rfl rfl (fun w' q=>run_load73 ((q.1.1.cell 0).trans rfl) ((q.1.1.cell 1).trans rfl) ((q.1.1.cell 2).trans rfl))) hS ?_
 simp only[ap]
 refine hpu 1 (.pointer (some ⟨w.heap.size+1,4,none⟩)) (by kernel_rfl) rfl rfl (fun _ _ _ h=>h) rfl (y_field rfl rfl (run_field37_4 _)) hS ?_
 simp only[ap]
 refine hpu 2 (.slice (some ⟨bk,ok,none⟩) 3 cK) (by kernel_rfl) rfl rfl (fun _ _ _ h=>h) rfl (y_load rfl rfl (fun w' q=>run_load35x ((q.1.2.1.cell 4).trans rfl))) hS ?_
 simp only[ap]
 refine hpu 3 (.pointer (some ⟨bk,ok+1,none⟩)) (by kernel_rfl) rfl rfl (fun _ _ _ h=>h) rfl (y_index rfl rfl rfl (fun w=>run_index35 bk ok 3 cK 1 (by decide) w)) hS ?_
 simp only[ap]
 refine hpu 4 (.int .i64 (k2:Int)) (by kernel_rfl) rfl rfl (fun _ _ _ h=>h) rfl (y_load rfl rfl (fun w' q=>run_load3 ((q.1.2.2 1 (by simp)).trans rfl))) hS ?_
 simp only[ap]
 refine h_callx 5 ({ dst:=some 28,op:=Op.call { callee:=Callee.value (Operand.func 194),args := #[Operand.tmp 23,Operand.tmp 27,Operand.const (Value.slice none 0 0)],argTypes := #[73,3,35] },type:=0,pos := "printer.go:109",after := #[{ on:=0,ground:=Ground.data },{ on:=4,ground:=Ground.data }],guard:=none }:Oper) (args := #[.agg #[.slice (some ⟨bA,off,none⟩) n c,.func (.func 117) #[.pointer (some ⟨b,0,none⟩)] #[],.int .i64 (d:Int)],.int .i64 (k2:Int),.slice none 0 0]) own194x rfl rfl (by kernel_rfl) rfl rfl (HB2.out _ _ hb5 hP5 (by have:=HL.out;simp only[List.length_append,List.length_cons,List.length_nil]at this ⊢;omega)) ?_
 rintro e W6 ⟨rfl,hp6,hk6⟩
 have hS6:=hS.kp hk6 (by omega) (by omega) hbk hbA
 refine .inr ⟨_,rfl,hS6,?_⟩
 simp only[ap]
 refine wpAnyH_done (by kernel_rfl) ?_ _
 have HX6:=Lib.hid hS6
 have HP6:=Lib.hid hp6
 have HW6:=Lib.hid (hw5.trans hk6)
 clear hS hP5 hw5 hkd hb5 HX2 HP2 HW2 hp6 hk6 hS6 e0 e1 e2 n0 n3
 have hk3n:k3<n:=hk3
 go_upto_region 8 with(fail)
 obtain⟨W5,hW5⟩:∃W5:World,{ W6 with drawn:=W6.drawn+1 }=W5:=⟨_,rfl⟩
 have hkd:Kp w0.heap.size b W6 W5:=by rw[← hW5];exact⟨Below.drew (Below.refl _ _),(Lib.OthersKept.refl _ _ W6).drew⟩
 have hS:=HX6.out.kp hkd (by omega) (by omega) hbk hbA
 have hP5:=(show∀T,Pg w0.heap.size b T W6→Pg w0.heap.size b T W5 from fun T q=>by rw[← hW5];exact q) _ HP6.out
 have hw5:=HW6.out.trans hkd
 have hb5:=HB.out.trans hw5.1
 refine wp_region_held (S:=SJ w.heap.size [.slice (some ⟨bA,off,none⟩) n c,.func (.func 117) #[.pointer (some ⟨b,0,none⟩)] #[],.int .i64 (d:Int)] [.int .i64 11,.int .i64 nn,.int .i64 pl,.string tx,.slice (some ⟨bk,ok,none⟩) 3 cK] bk ok [(a:Int),(k2:Int),(k3:Int)] bA (off+k3*5+4) (.slice K3 m3 cq)) (by kernel_rfl) ?_
 rw[hW5]
 clear hW5
 refine hpu 0 (.pointer (some ⟨w.heap.size,0,none⟩)) (by kernel_rfl) rfl rfl (fun _ _ _ h=>h) rfl (y_field rfl rfl (run_field73_0 _)) hS ?_
 simp only[ap]
 refine hpu 1 (.slice (some ⟨bA,off,none⟩) n c) (by kernel_rfl) rfl rfl (fun _ _ _ h=>h) rfl (y_load rfl rfl (fun w' q=>run_load23o ((q.1.1.cell 0).trans rfl))) hS ?_
 simp only[ap]
 refine hpu 2 (.pointer (some ⟨w.heap.size+1,4,none⟩)) (by kernel_rfl) rfl rfl (fun _ _ _ h=>h) rfl (y_field rfl rfl (run_field37_4 _)) hS ?_
 simp only[ap]
 refine hpu 3 (.slice (some ⟨bk,ok,none⟩) 3 cK) (by kernel_rfl) rfl rfl (fun _ _ _ h=>h) rfl (y_load rfl rfl (fun w' q=>run_load35x ((q.1.2.1.cell 4).trans rfl))) hS ?_
 simp only[ap]
 refine hpu 4 (.pointer (some ⟨bk,ok+2,none⟩)) (by kernel_rfl) rfl rfl (fun _ _ _ h=>h) rfl (y_index rfl rfl rfl (fun w=>run_index35 bk ok 3 cK 2 (by decide) w)) hS ?_
 simp only[ap]
 refine hpu 5 (.int .i64 (k3:Int)) (by kernel_rfl) rfl rfl (fun _ _ _ h=>h) rfl (y_load rfl rfl (fun w' q=>run_load3 ((q.1.2.2 2 (by simp)).trans rfl))) hS ?_
 simp only[ap]
 refine hpu 6 (.pointer (some ⟨bA,off+k3*5,none⟩)) (by kernel_rfl) rfl rfl (fun _ _ _ h=>h) rfl (y_index rfl rfl rfl (fun w=>run_index23 bA off n c k3 hk3n w)) hS ?_
 simp only[ap]
 refine hpu 7 (.pointer (some ⟨bA,off+k3*5+4,none⟩)) (by kernel_rfl) rfl rfl (fun _ _ _ h=>h) rfl (y_field rfl rfl (run_field37_4o _ _)) hS ?_
 simp only[ap]
 refine hpu 8 (.slice K3 m3 cq) (by kernel_rfl) rfl rfl (fun _ _ _ h=>h) rfl (y_load rfl rfl (fun w' q=>run_load35x q.2)) hS ?_
 simp only[ap]
 refine hpu 9 (.int .i64 (m3:Int)) (by kernel_rfl) rfl rfl (fun _ _ _ h=>h) rfl (y_len35 rfl rfl) hS ?_
 simp only[ap]
 refine hpu 10 (.bool false) (by kernel_rfl) rfl rfl (fun _ _ _ h=>h) rfl (y_bin rfl rfl rfl (fun w=>by kernel_rfl) (fun w=>by rw[hm0];exact gtr_no w)) hS ?_
 simp only[ap]
 refine wpAnyH_done (by kernel_rfl) ?_ _
 have HX7:=Lib.hid hS
 have HP7:=Lib.hid hP5
 have HW7:=Lib.hid hw5
 have e1:=(hS.1.1.cell 1).trans rfl
 clear hS hP5 hw5 hkd hb5 HX6 HP6 HW6
 have n0:=True.intro
 have n3:=True.intro
 clear n0 n3
 go_wp2_with (go_at_call 117;refine(write_new w0.heap.size b _ [[10]] _ HP7.out (by have:=HL.out;simp only[List.length_append,List.length_cons,List.length_nil,List.flatten_cons,List.flatten_nil]at this ⊢;omega) (by simp) 1 rfl _ (by rfl) _ rfl).mono ?_)
 rintro e w9 ⟨rfl,hp9,hk9⟩
 have HP9:=Lib.hid hp9
 have HW9:=Lib.hid (HW7.out.trans hk9)
 clear hp9 hk9 e1
 go_wp2
 go_end0
 exact⟨rfl,by simpa using HP9.out,HW9.out⟩
theorem st_11e {w0:World}{A:Option Addr}{l:List Tr.Nd}{n:Nat}(c b d:Nat)(hx:Px0 w0 A l n)(p:Nat)(a k2 k3:Nat)(yl:List UInt8)(y2 y3:List UInt8)(t:List UInt8)(w:World)(hp:p<n)(hd:d≤100000)(hk:(ndA l p).kd=11)(hks:(ndA l p).ks=[(a:Int),(k2:Int),(k3:Int)])
  (hln:∀t' w',Below w0.heap.size w0 w'→Pg w0.heap.size b t' w'→t'.length+yl.length≤140737488355328→Calls Tryz.prog 72 #[PV A n c b (d:Int),.int .i64 (p:Int)] w' (WrPost w0.heap.size b (t'++yl) (.tuple #[]) w'))
  (hb2:∀t' w',Below w0.heap.size w0 w'→Pg w0.heap.size b t' w'→t'.length+y2.length≤140737488355328→Calls Tryz.prog 194 #[PV A n c b (d:Int),.int .i64 (k2:Int),.slice none 0 0] w' (WrPost w0.heap.size b (t'++y2) (.tuple #[]) w'))
  (hb3:∀t' w',Below w0.heap.size w0 w'→Pg w0.heap.size b t' w'→t'.length+y3.length≤140737488355328→Calls Tryz.prog 194 #[PV A n c b (d:Int),.int .i64 (k3:Int),.slice none 0 0] w' (WrPost w0.heap.size b (t'++y3) (.tuple #[]) w'))
  (hk3:k3<n) (he:(ndA l k3).ks≠[])
  (hb:Below w0.heap.size w0 w) (h:Pg w0.heap.size b t w) (hl:t.length+(indT d++yl++(y2++([32,101,108,115,101]++y3))++[10]).length≤140737488355328):Calls Tryz.prog 246 #[PV A n c b (d:Int),.int .i64 (p:Int)] w (WrPost w0.heap.size b (t++(indT d++yl++(y2++([32,101,108,115,101]++y3))++[10])) (.tuple #[]) w):=by
 have hpl:p<l.length:=by rw[← hx.len];exact hp
 obtain⟨bA,off,K,cK,rfl,hlt,c0,c1,c2,c3,c4,z5⟩:=node_at hx.nds hb p hpl
 rw[← ndA_eq hpl]at c0 c1 c2 c3 c4 z5
 rw[hk]at c0
 have hk3l:k3<l.length:=by rw[← hx.len];exact hk3
 obtain⟨bA2,off2,K3,cq,eA2,hltA,q0,q1,q2,q3,q4,q5⟩:=node_at hx.nds hb k3 hk3l
 injection eA2 with eA2
 injection eA2 with e1 e2
 subst e1 e2
 rw[← ndA_eq hk3l]at q4
 obtain⟨m3,hm3⟩:∃m3,(ndA l k3).ks.length=m3:=⟨_,rfl⟩
 have hm0:0<m3:=by rw[← hm3];exact List.length_pos_iff.2 he
 rw[hm3]at q4
 have hbA:bA<w0.heap.size:=by
  obtain⟨bX,oX,eX,hX,_⟩:=hx.nds (by omega)
  injection eX with eX
  injection eX with e1 e2
  rw[e1];exact hX
 clear q0 q1 q2 q3 q5 hm3
 have hpz:(p:Int)<(n:Int):=by omega
 rw[hks]at c4 z5
 have c4:w.cell? ⟨bA,off+p*5+4,none⟩=some (.slice K 3 cK):=c4
 obtain⟨bk,ok,rfl,hbk,hck0⟩:=z5 (by simp)
 have hckw:∀j (hj:j<([(a:Int),(k2:Int),(k3:Int)]:List Int).length),w.cell? ⟨bk,ok+j,none⟩=some (.int .i64 ([(a:Int),(k2:Int),(k3:Int)]:List Int)[j]):=fun j hj=>(hb.cell (p:=⟨bk,ok+j,none⟩) hbk).trans (hck0 j hj)
 have HI:=Lib.hid (fun t' w' (h':Pg w0.heap.size b t' w') (hl':t'.length+(indT d).length≤140737488355328)=>indent_pg (B:=w0.heap.size) (some ⟨bA,off,none⟩) n c b d t' w' (by omega) h' hl')
 have HLN:=Lib.hid hln
 have HB2:=Lib.hid hb2
 have HB3:=Lib.hid hb3
 generalize indT d=yi at *
 have HL:=Lib.hid hl
 have HB:=Lib.hid hb
 have H:=Lib.hid h
 have hbw:=h.bw
 have hbl:=h.lt
 have hsz:=hb.size
 unfold PV at HI HLN HB2 HB3
 unfold PV
 generalize (ndA l p).n=nn at *
 generalize (ndA l p).pl=pl at *
 generalize (ndA l p).tx=tx at *
 have HX0:=Lib.hid (show SJ w.heap.size [.slice (some ⟨bA,off,none⟩) n c,.func (.func 117) #[.pointer (some ⟨b,0,none⟩)] #[],.int .i64 (d:Int)] [.int .i64 11,.int .i64 nn,.int .i64 pl,.string tx,.slice (some ⟨bk,ok,none⟩) 3 cK] bk ok [(a:Int),(k2:Int),(k3:Int)] bA (off+k3*5+4) (.slice K3 m3 cq) ((w.alloc (.cells #[.slice (some ⟨bA,off,none⟩) n c,.func (.func 117) #[.pointer (some ⟨b,0,none⟩)] #[],.int .i64 (d:Int)] 73)).alloc (.cells #[.int .i64 11,.int .i64 nn,.int .i64 pl,.string tx,.slice (some ⟨bk,ok,none⟩) 3 cK] 37)) by
  have b1:=s2_new w [.slice (some ⟨bA,off,none⟩) n c,.func (.func 117) #[.pointer (some ⟨b,0,none⟩)] #[],.int .i64 (d:Int)] [.int .i64 11,.int .i64 nn,.int .i64 pl,.string tx,.slice (some ⟨bk,ok,none⟩) 3 cK]
  have hb2:Below w.heap.size w ((w.alloc (.cells #[.slice (some ⟨bA,off,none⟩) n c,.func (.func 117) #[.pointer (some ⟨b,0,none⟩)] #[],.int .i64 (d:Int)] 73)).alloc (.cells #[.int .i64 11,.int .i64 nn,.int .i64 pl,.string tx,.slice (some ⟨bk,ok,none⟩) 3 cK] 37)):=((Below.refl _ _).alloc (Nat.le_refl _) _).alloc (by rw[World.size_alloc];omega) _
  exact⟨⟨b1.1,b1.2,fun j hj=>(hb2.cell (p:=⟨bk,ok+j,none⟩) (by show bk<w.heap.size;omega)).trans (hckw j hj)⟩,(hb2.cell (p:=⟨bA,off+k3*5+4,none⟩) (by show bA<w.heap.size;omega)).trans q4⟩)
 have HP0:=Lib.hid ((h.alloc (.cells #[.slice (some ⟨bA,off,none⟩) n c,.func (.func 117) #[.pointer (some ⟨b,0,none⟩)] #[],.int .i64 (d:Int)] 73)).alloc (.cells #[.int .i64 11,.int .i64 nn,.int .i64 pl,.string tx,.slice (some ⟨bk,ok,none⟩) 3 cK] 37))
 have HW0:=Lib.hid (((Kp.refl w0.heap.size b w).alloc hbw (.cells #[.slice (some ⟨bA,off,none⟩) n c,.func (.func 117) #[.pointer (some ⟨b,0,none⟩)] #[],.int .i64 (d:Int)] 73)).alloc (by rw[World.size_alloc];omega) (.cells #[.int .i64 11,.int .i64 nn,.int .i64 pl,.string tx,.slice (some ⟨bk,ok,none⟩) 3 cK] 37))
 clear hln hb2 hb3 hb h hl hpl hks hk hx hckw hck0 z5 q4 he hk3l
 go_enter Tryz.func246,Tryz.ntmps246
 go_wp2_with (go_at_call 190;refine(HI.out _ _ HP0.out (by have:=HL.out;simp only[List.length_append,List.length_cons,List.length_nil]at this ⊢;omega)).mono ?_)
 rintro e w1 ⟨rfl,hp1,hk1⟩
 have hx1:=HX0.out.kp hk1 (by omega) (by omega) hbk hbA
 have HX1:=Lib.hid hx1
 have HP1:=Lib.hid hp1
 have HW1:=Lib.hid (HW0.out.trans hk1)
 have e0:=(hx1.1.1.cell 0).trans rfl
 have e1:=(hx1.1.1.cell 1).trans rfl
 have e2:=(hx1.1.1.cell 2).trans rfl
 have hb1:=HB.out.trans HW1.out.1
 clear HX0 HP0 HW0 hp1 hk1 hx1
 go_wp2_with (go_at_call 72;refine(HLN.out _ _ hb1 HP1.out (by have:=HL.out;simp only[List.length_append,List.length_cons,List.length_nil]at this ⊢;omega)).mono ?_)
 rintro e w2 ⟨rfl,hp2,hk2⟩
 have hx2:=HX1.out.kp hk2 (by omega) (by omega) hbk hbA
 have HX2:=Lib.hid hx2
 have HP2:=Lib.hid hp2
 have HW2:=Lib.hid (HW1.out.trans hk2)
 clear e0 e1 e2
 have e0:=(hx2.1.1.cell 0).trans rfl
 have e1:=(hx2.1.1.cell 1).trans rfl
 have e2:=(hx2.1.1.cell 2).trans rfl
 have n0:=(hx2.1.2.1.cell 0).trans rfl
 have n3:=(hx2.1.2.1.cell 3).trans rfl
 clear HX1 HP1 HW1 hp2 hk2 hx2 hb1
 go_upto_region 7 with(fail)
 obtain⟨W5,hW5⟩:∃W5:World,{ w2 with drawn:=w2.drawn+1 }=W5:=⟨_,rfl⟩
 have hkd:Kp w0.heap.size b w2 W5:=by rw[← hW5];exact⟨Below.drew (Below.refl _ _),(Lib.OthersKept.refl _ _ w2).drew⟩
 have hS:=HX2.out.kp hkd (by omega) (by omega) hbk hbA
 have hP5:=(show∀T,Pg w0.heap.size b T w2→Pg w0.heap.size b T W5 from fun T q=>by rw[← hW5];exact q) _ HP2.out
 have hw5:=HW2.out.trans hkd
 have hb5:=HB.out.trans hw5.1
 refine wp_region_held (S:=SJ w.heap.size [.slice (some ⟨bA,off,none⟩) n c,.func (.func 117) #[.pointer (some ⟨b,0,none⟩)] #[],.int .i64 (d:Int)] [.int .i64 11,.int .i64 nn,.int .i64 pl,.string tx,.slice (some ⟨bk,ok,none⟩) 3 cK] bk ok [(a:Int),(k2:Int),(k3:Int)] bA (off+k3*5+4) (.slice K3 m3 cq)) (by kernel_rfl) ?_
 rw[hW5]
 clear hW5
 refine hpu 0 (.agg #[.slice (some ⟨bA,off,none⟩) n c,.func (.func 117) #[.pointer (some ⟨b,0,none⟩)] #[],.int .i64 (d:Int)]) (by kernel_rfl) rfl rfl (fun _ _ _ h=>h) rfl (y_load rfl rfl (fun w' q=>run_load73 ((q.1.1.cell 0).trans rfl) ((q.1.1.cell 1).trans rfl) ((q.1.1.cell 2).trans rfl))) hS ?_
 simp only[ap]
 refine hpu 1 (.pointer (some ⟨w.heap.size+1,4,none⟩)) (by kernel_rfl) rfl rfl (fun _ _ _ h=>h) rfl (y_field rfl rfl (run_field37_4 _)) hS ?_
 simp only[ap]
 refine hpu 2 (.slice (some ⟨bk,ok,none⟩) 3 cK) (by kernel_rfl) rfl rfl (fun _ _ _ h=>h) rfl (y_load rfl rfl (fun w' q=>run_load35x ((q.1.2.1.cell 4).trans rfl))) hS ?_
 simp only[ap]
 refine hpu 3 (.pointer (some ⟨bk,ok+1,none⟩)) (by kernel_rfl) rfl rfl (fun _ _ _ h=>h) rfl (y_index rfl rfl rfl (fun w=>run_index35 bk ok 3 cK 1 (by decide) w)) hS ?_
 simp only[ap]
 refine hpu 4 (.int .i64 (k2:Int)) (by kernel_rfl) rfl rfl (fun _ _ _ h=>h) rfl (y_load rfl rfl (fun w' q=>run_load3 ((q.1.2.2 1 (by simp)).trans rfl))) hS ?_
 simp only[ap]
 refine h_callx 5 ({ dst:=some 28,op:=Op.call { callee:=Callee.value (Operand.func 194),args := #[Operand.tmp 23,Operand.tmp 27,Operand.const (Value.slice none 0 0)],argTypes := #[73,3,35] },type:=0,pos := "printer.go:109",after := #[{ on:=0,ground:=Ground.data },{ on:=4,ground:=Ground.data }],guard:=none }:Oper) (args := #[.agg #[.slice (some ⟨bA,off,none⟩) n c,.func (.func 117) #[.pointer (some ⟨b,0,none⟩)] #[],.int .i64 (d:Int)],.int .i64 (k2:Int),.slice none 0 0]) own194x rfl rfl (by kernel_rfl) rfl rfl (HB2.out _ _ hb5 hP5 (by have:=HL.out;simp only[List.length_append,List.length_cons,List.length_nil]at this ⊢;omega)) ?_
 rintro e W6 ⟨rfl,hp6,hk6⟩
 have hS6:=hS.kp hk6 (by omega) (by omega) hbk hbA
 refine .inr ⟨_,rfl,hS6,?_⟩
 simp only[ap]
 refine wpAnyH_done (by kernel_rfl) ?_ _
 have HX6:=Lib.hid hS6
 have HP6:=Lib.hid hp6
 have HW6:=Lib.hid (hw5.trans hk6)
 clear hS hP5 hw5 hkd hb5 HX2 HP2 HW2 hp6 hk6 hS6 e0 e1 e2 n0 n3
 have hk3n:k3<n:=hk3
 go_upto_region 8 with(fail)
 obtain⟨W5,hW5⟩:∃W5:World,{ W6 with drawn:=W6.drawn+1 }=W5:=⟨_,rfl⟩
 have hkd:Kp w0.heap.size b W6 W5:=by rw[← hW5];exact⟨Below.drew (Below.refl _ _),(Lib.OthersKept.refl _ _ W6).drew⟩
 have hS:=HX6.out.kp hkd (by omega) (by omega) hbk hbA
 have hP5:=(show∀T,Pg w0.heap.size b T W6→Pg w0.heap.size b T W5 from fun T q=>by rw[← hW5];exact q) _ HP6.out
 have hw5:=HW6.out.trans hkd
 have hb5:=HB.out.trans hw5.1
 refine wp_region_held (S:=SJ w.heap.size [.slice (some ⟨bA,off,none⟩) n c,.func (.func 117) #[.pointer (some ⟨b,0,none⟩)] #[],.int .i64 (d:Int)] [.int .i64 11,.int .i64 nn,.int .i64 pl,.string tx,.slice (some ⟨bk,ok,none⟩) 3 cK] bk ok [(a:Int),(k2:Int),(k3:Int)] bA (off+k3*5+4) (.slice K3 m3 cq)) (by kernel_rfl) ?_
 rw[hW5]
 clear hW5
 refine hpu 0 (.pointer (some ⟨w.heap.size,0,none⟩)) (by kernel_rfl) rfl rfl (fun _ _ _ h=>h) rfl (y_field rfl rfl (run_field73_0 _)) hS ?_
 simp only[ap]
 refine hpu 1 (.slice (some ⟨bA,off,none⟩) n c) (by kernel_rfl) rfl rfl (fun _ _ _ h=>h) rfl (y_load rfl rfl (fun w' q=>run_load23o ((q.1.1.cell 0).trans rfl))) hS ?_
 simp only[ap]
 refine hpu 2 (.pointer (some ⟨w.heap.size+1,4,none⟩)) (by kernel_rfl) rfl rfl (fun _ _ _ h=>h) rfl (y_field rfl rfl (run_field37_4 _)) hS ?_
 simp only[ap]
 refine hpu 3 (.slice (some ⟨bk,ok,none⟩) 3 cK) (by kernel_rfl) rfl rfl (fun _ _ _ h=>h) rfl (y_load rfl rfl (fun w' q=>run_load35x ((q.1.2.1.cell 4).trans rfl))) hS ?_
 simp only[ap]
 refine hpu 4 (.pointer (some ⟨bk,ok+2,none⟩)) (by kernel_rfl) rfl rfl (fun _ _ _ h=>h) rfl (y_index rfl rfl rfl (fun w=>run_index35 bk ok 3 cK 2 (by decide) w)) hS ?_
 simp only[ap]
 refine hpu 5 (.int .i64 (k3:Int)) (by kernel_rfl) rfl rfl (fun _ _ _ h=>h) rfl (y_load rfl rfl (fun w' q=>run_load3 ((q.1.2.2 2 (by simp)).trans rfl))) hS ?_
 simp only[ap]
 refine hpu 6 (.pointer (some ⟨bA,off+k3*5,none⟩)) (by kernel_rfl) rfl rfl (fun _ _ _ h=>h) rfl (y_index rfl rfl rfl (fun w=>run_index23 bA off n c k3 hk3n w)) hS ?_
 simp only[ap]
 refine hpu 7 (.pointer (some ⟨bA,off+k3*5+4,none⟩)) (by kernel_rfl) rfl rfl (fun _ _ _ h=>h) rfl (y_field rfl rfl (run_field37_4o _ _)) hS ?_
 simp only[ap]
 refine hpu 8 (.slice K3 m3 cq) (by kernel_rfl) rfl rfl (fun _ _ _ h=>h) rfl (y_load rfl rfl (fun w' q=>run_load35x q.2)) hS ?_
 simp only[ap]
 refine hpu 9 (.int .i64 (m3:Int)) (by kernel_rfl) rfl rfl (fun _ _ _ h=>h) rfl (y_len35 rfl rfl) hS ?_
 simp only[ap]
 refine hpu 10 (.bool true) (by kernel_rfl) rfl rfl (fun _ _ _ h=>h) rfl (y_bin rfl rfl rfl (fun w=>by kernel_rfl) (fun w=>gtr_yes hm0 w)) hS ?_
 simp only[ap]
 refine wpAnyH_done (by kernel_rfl) ?_ _
 have HX7:=Lib.hid hS
 have HP7:=Lib.hid hP5
 have HW7:=Lib.hid hw5
 have e1:=(hS.1.1.cell 1).trans rfl
 clear hS hP5 hw5 hkd hb5 HX6 HP6 HW6
 go_wp2_with (go_at_call 117;refine(write_new w0.heap.size b _ [[32,101,108,115,101]] _ HP7.out (by have:=HL.out;simp only[List.length_append,List.length_cons,List.length_nil,List.flatten_cons,List.flatten_nil]at this ⊢;omega) (by simp) 1 rfl _ (by rfl) _ rfl).mono ?_)
 rintro e w7 ⟨rfl,hp7,hk7⟩
 have HX8:=Lib.hid (HX7.out.kp hk7 (by omega) (by omega) hbk hbA)
 have HP8:=Lib.hid hp7
 have HW8:=Lib.hid (HW7.out.trans hk7)
 clear HX7 HP7 HW7 hp7 hk7 e1
 go_upto_region 10 with(fail)
 obtain⟨W5,hW5⟩:∃W5:World,{ w7 with drawn:=w7.drawn+1 }=W5:=⟨_,rfl⟩
 have hkd:Kp w0.heap.size b w7 W5:=by rw[← hW5];exact⟨Below.drew (Below.refl _ _),(Lib.OthersKept.refl _ _ w7).drew⟩
 have hS:=HX8.out.kp hkd (by omega) (by omega) hbk hbA
 have hP5:=(show∀T,Pg w0.heap.size b T w7→Pg w0.heap.size b T W5 from fun T q=>by rw[← hW5];exact q) _ HP8.out
 have hw5:=HW8.out.trans hkd
 have hb5:=HB.out.trans hw5.1
 refine wp_region_held (S:=SJ w.heap.size [.slice (some ⟨bA,off,none⟩) n c,.func (.func 117) #[.pointer (some ⟨b,0,none⟩)] #[],.int .i64 (d:Int)] [.int .i64 11,.int .i64 nn,.int .i64 pl,.string tx,.slice (some ⟨bk,ok,none⟩) 3 cK] bk ok [(a:Int),(k2:Int),(k3:Int)] bA (off+k3*5+4) (.slice K3 m3 cq)) (by kernel_rfl) ?_
 rw[hW5]
 clear hW5
 refine hpu 0 (.agg #[.slice (some ⟨bA,off,none⟩) n c,.func (.func 117) #[.pointer (some ⟨b,0,none⟩)] #[],.int .i64 (d:Int)]) (by kernel_rfl) rfl rfl (fun _ _ _ h=>h) rfl (y_load rfl rfl (fun w' q=>run_load73 ((q.1.1.cell 0).trans rfl) ((q.1.1.cell 1).trans rfl) ((q.1.1.cell 2).trans rfl))) hS ?_
 simp only[ap]
 refine hpu 1 (.pointer (some ⟨w.heap.size+1,4,none⟩)) (by kernel_rfl) rfl rfl (fun _ _ _ h=>h) rfl (y_field rfl rfl (run_field37_4 _)) hS ?_
 simp only[ap]
 refine hpu 2 (.slice (some ⟨bk,ok,none⟩) 3 cK) (by kernel_rfl) rfl rfl (fun _ _ _ h=>h) rfl (y_load rfl rfl (fun w' q=>run_load35x ((q.1.2.1.cell 4).trans rfl))) hS ?_
 simp only[ap]
 refine hpu 3 (.pointer (some ⟨bk,ok+2,none⟩)) (by kernel_rfl) rfl rfl (fun _ _ _ h=>h) rfl (y_index rfl rfl rfl (fun w=>run_index35 bk ok 3 cK 2 (by decide) w)) hS ?_
 simp only[ap]
 refine hpu 4 (.int .i64 (k3:Int)) (by kernel_rfl) rfl rfl (fun _ _ _ h=>h) rfl (y_load rfl rfl (fun w' q=>run_load3 ((q.1.2.2 2 (by simp)).trans rfl))) hS ?_
 simp only[ap]
 refine h_callx 5 ({ dst:=some 49,op:=Op.call { callee:=Callee.value (Operand.func 194),args := #[Operand.tmp 44,Operand.tmp 48,Operand.const (Value.slice none 0 0)],argTypes := #[73,3,35] },type:=0,pos := "printer.go:112",after := #[{ on:=0,ground:=Ground.data },{ on:=4,ground:=Ground.data }],guard:=none }:Oper) (args := #[.agg #[.slice (some ⟨bA,off,none⟩) n c,.func (.func 117) #[.pointer (some ⟨b,0,none⟩)] #[],.int .i64 (d:Int)],.int .i64 (k3:Int),.slice none 0 0]) own194x rfl rfl (by kernel_rfl) rfl rfl (HB3.out _ _ hb5 hP5 (by have:=HL.out;simp only[List.length_append,List.length_cons,List.length_nil,List.flatten_cons,List.flatten_nil]at this ⊢;omega)) ?_
 rintro e W6 ⟨rfl,hp6,hk6⟩
 have hS6:=hS.kp hk6 (by omega) (by omega) hbk hbA
 refine .inr ⟨_,rfl,hS6,?_⟩
 simp only[ap]
 refine wpAnyH_done (by kernel_rfl) ?_ _
 have HX9:=Lib.hid hS6
 have HP9:=Lib.hid hp6
 have HW9:=Lib.hid (hw5.trans hk6)
 clear hS hP5 hw5 hkd hb5 HX8 HP8 HW8 hp6 hk6
 have e1:=(hS6.1.1.cell 1).trans rfl
 have n0:=True.intro
 have n3:=True.intro
 clear hS6
 clear n0 n3
 go_wp2_with (go_at_call 117;refine(write_new w0.heap.size b _ [[10]] _ HP9.out (by have:=HL.out;simp only[List.length_append,List.length_cons,List.length_nil,List.flatten_cons,List.flatten_nil]at this ⊢;omega) (by simp) 1 rfl _ (by rfl) _ rfl).mono ?_)
 rintro e w9 ⟨rfl,hp9,hk9⟩
 have HP9:=Lib.hid hp9
 have HW9:=Lib.hid (HW9.out.trans hk9)
 clear hp9 hk9 e1
 go_wp2
 go_end0
 exact⟨rfl,by simpa using HP9.out,HW9.out⟩
end
end Go.Proofs.YteecfjhjllajlaaGreatDoor
