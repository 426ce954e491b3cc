/- PROVED here: parts Xg of the claim. No condition but those in each theorem's own head. -/
import Derived.Test.YteecfjhjllajlaaGreatDoorM11
namespace Go.Proofs.YteecfjhjllajlaaGreatDoor
section
set_option maxHeartbeats 2500000
set_option maxRecDepth 100000
open Go Go.RowKit
open Tr (Bx heap1 bt Nds Ints)
theorem ex_unary {w0:World}{A:Option Addr}{l:List Tr.Nd}{n c b f:Nat}(hx:Px0 w0 A l n)(hr:RecE w0 A l n c b f)(d:Int)(p:Nat)(t:List UInt8)(w:World)(hpf:p<f+1)(hp:p<n)(hk:(ndA l p).kd=26)(hb:Below w0.heap.size w0 w)(h:Pg w0.heap.size b t w)(hl:t.length+(exT l (f+1) p).length≤140737488355328) :
  Calls Tryz.prog 66 #[PV A n c b d,.int .i64 (p:Int)] w (WrPost w0.heap.size b (t++exT l (f+1) p) (.tuple #[]) w):=by
 have hpf0:=hpf
 clear hpf0
 have hpl:p<l.length:=by rw[← hx.len];exact hp
 have hex:exT l (f+1) p=(ndA l p).tx.data.toList++opT l (exT l f) (kidA l p 0):=by simp[exT,hk,txA]
 rw[hex]at hl ⊢
 clear hex
 obtain⟨bA,off,K,cK,rfl,hlt,c0,c1,c2,c3,c4,z5⟩:=node_at hx.nds hb p hpl
 rw[← ndA_eq hpl]at c0 c1 c2 c3 c4 z5
 rw[hk]at c0
 have hpz:(p:Int)<(n:Int):=by omega
 have H:=Lib.hid h
 have HB:=Lib.hid hb
 have hbw:=h.bw
 have hbl:=h.lt
 have HL:=Lib.hid hl
 obtain⟨k,hks,hkp,hke⟩:=hx.ex.one p hpl (.inr hk)
 have hkid:kidA l p 0=(k:Int):=by unfold kidA;rw[hks];rfl
 rw[hkid]at hl ⊢
 have HL:=Lib.hid hl
 rw[hks]at c4 z5
 have c4:w.cell? ⟨bA,off+p*5+4,none⟩=some (.slice K 1 cK):=c4
 obtain⟨bk,ok,rfl,hbk,hck0⟩:=z5 (by simp)
 have hck:w0.cell? ⟨bk,ok,none⟩=some (.int .i64 (k:Int)):=hck0 0 (by simp)
 have hkf:k<f:=by omega
 have hkn:k<n:=by omega
 clear hkid hks hck0
 have HO:=Lib.hid (fun t' w' (q:Below w0.heap.size w0 w') (h':Pg w0.heap.size b t' w') (hl':t'.length+(opT l (exT l f) k).length≤140737488355328)=>operand_pg hx hr d k t' w' hkf hkn hke q h' hl')
 unfold PV at HO
 unfold PV
 generalize opT l (exT l f) (k:Int)=y at *
 generalize (ndA l p).n=nn at *
 generalize (ndA l p).pl=pl at *
 generalize (ndA l p).tx=tx at *
 have HX1:=Lib.hid (show SP w.heap.size (w.heap.size+1) [.slice (some ⟨bA,off,none⟩) n c,.func (.func 117) #[.pointer (some ⟨b,0,none⟩)] #[],.int .i64 d] [.int .i64 26,.int .i64 nn,.int .i64 pl,.string tx,.slice (some ⟨bk,ok,none⟩) 1 cK] bk ok (k:Int) ((w.alloc (.cells #[.slice (some ⟨bA,off,none⟩) n c,.func (.func 117) #[.pointer (some ⟨b,0,none⟩)] #[],.int .i64 d] 73)).alloc (.cells #[.int .i64 26,.int .i64 nn,.int .i64 pl,.string tx,.slice (some ⟨bk,ok,none⟩) 1 cK] 37)) by
  have b1:=Bx.new w 73 [.slice (some ⟨bA,off,none⟩) n c,.func (.func 117) #[.pointer (some ⟨b,0,none⟩)] #[],.int .i64 d]
  have b2:=Bx.new (w.alloc (.cells #[.slice (some ⟨bA,off,none⟩) n c,.func (.func 117) #[.pointer (some ⟨b,0,none⟩)] #[],.int .i64 d] 73)) 37 [.int .i64 26,.int .i64 nn,.int .i64 pl,.string tx,.slice (some ⟨bk,ok,none⟩) 1 cK]
  have b3:=b1.alloc (.cells #[.int .i64 26,.int .i64 nn,.int .i64 pl,.string tx,.slice (some ⟨bk,ok,none⟩) 1 cK] 37)
  rw[World.size_alloc]at b2
  refine⟨b3,b2,?_⟩
  have hb2:Below w0.heap.size w0 ((w.alloc (.cells #[.slice (some ⟨bA,off,none⟩) n c,.func (.func 117) #[.pointer (some ⟨b,0,none⟩)] #[],.int .i64 d] 73)).alloc (.cells #[.int .i64 26,.int .i64 nn,.int .i64 pl,.string tx,.slice (some ⟨bk,ok,none⟩) 1 cK] 37)):=(HB.out.alloc hbw _).alloc (by rw[World.size_alloc];omega) _
  exact(hb2.cell (p:=⟨bk,ok,none⟩) hbk).trans hck)
 have HW1:=Lib.hid (((Kp.refl w0.heap.size b w).alloc hbw (.cells #[.slice (some ⟨bA,off,none⟩) n c,.func (.func 117) #[.pointer (some ⟨b,0,none⟩)] #[],.int .i64 d] 73)).alloc (by rw[World.size_alloc];omega) (.cells #[.int .i64 26,.int .i64 nn,.int .i64 pl,.string tx,.slice (some ⟨bk,ok,none⟩) 1 cK] 37))
 clear hk hr hx hb h hl hpl hpf hke hck
 go_enter Tryz.func66,Tryz.ntmps66
 go_wp2_with (go_at_call 117;refine(write_new w0.heap.size b t [tx.data.toList] _ ((H.out.alloc _).alloc _) (by simp;have:=HL.out;simp at this;omega) (by simp) 1 rfl _ (by simp[bsX_of]) _ (by simp[World.size_alloc])).mono ?_)
 rintro e w1 ⟨rfl,hp1,hk1⟩
 have HS2:=Lib.hid (HX1.out.kp hk1 (by omega) (by omega) hbk)
 have HP2:=Lib.hid hp1
 have HW2:=Lib.hid (HW1.out.trans hk1)
 clear HX1 HW1 hp1 hk1
 go_upto_region 17 with(fail)
 obtain⟨W5,hW5⟩:∃W5:World,{ w1 with drawn:=w1.drawn+1 }=W5:=⟨_,rfl⟩
 have hkd:Kp w0.heap.size b w1 W5:=by rw[← hW5];exact⟨Below.drew (Below.refl _ _),(Lib.OthersKept.refl _ _ w1).drew⟩
 have hS:SP w.heap.size (w.heap.size+1) [.slice (some ⟨bA,off,none⟩) n c,.func (.func 117) #[.pointer (some ⟨b,0,none⟩)] #[],.int .i64 d] [.int .i64 26,.int .i64 nn,.int .i64 pl,.string tx,.slice (some ⟨bk,ok,none⟩) 1 cK] bk ok (k:Int) W5:=HS2.out.kp hkd (by omega) (by omega) hbk
 have hP5:Pg w0.heap.size b (t++[tx.data.toList].flatten) W5:=by rw[← hW5];exact HP2.out
 have hw5:=HW2.out.trans hkd
 refine wp_region_held (S:=SP w.heap.size (w.heap.size+1) [.slice (some ⟨bA,off,none⟩) n c,.func (.func 117) #[.pointer (some ⟨b,0,none⟩)] #[],.int .i64 d] [.int .i64 26,.int .i64 nn,.int .i64 pl,.string tx,.slice (some ⟨bk,ok,none⟩) 1 cK] bk ok (k:Int)) (by kernel_rfl) ?_
 rw[hW5]
 clear hW5
 refine hpu 0 (.agg #[.slice (some ⟨bA,off,none⟩) n c,.func (.func 117) #[.pointer (some ⟨b,0,none⟩)] #[],.int .i64 d]) (by kernel_rfl) rfl rfl (fun _ _ _ h=>h) rfl (y_load rfl rfl (fun w' q=>run_load73 ((q.1.cell 0).trans rfl) ((q.1.cell 1).trans rfl) ((q.1.cell 2).trans rfl))) hS ?_
 simp only[ap]
 refine hpu 1 (.pointer (some ⟨w.heap.size+1,4,none⟩)) (by kernel_rfl) rfl rfl (fun _ _ _ h=>h) rfl (y_field rfl rfl (run_field37_4 _)) hS ?_
 simp only[ap]
 refine hpu 2 (.slice (some ⟨bk,ok,none⟩) 1 cK) (by kernel_rfl) rfl rfl (fun _ _ _ h=>h) rfl (y_load rfl rfl (fun w' q=>run_load35x ((q.2.1.cell 4).trans rfl))) hS ?_
 simp only[ap]
 refine hpu 3 (.pointer (some ⟨bk,ok+0,none⟩)) (by kernel_rfl) rfl rfl (fun _ _ _ h=>h) rfl (y_index rfl rfl rfl (fun w=>run_index35 bk ok 1 cK 0 (by decide) w)) hS ?_
 simp only[ap]
 refine hpu 4 (.int .i64 (k:Int)) (by kernel_rfl) rfl rfl (fun _ _ _ h=>h) rfl (y_load rfl rfl (fun w' q=>run_load3 q.2.2)) hS ?_
 simp only[ap]
 refine h_callx 5 ({ dst:=some 73,op:=Op.call { callee:=Callee.value (Operand.func 126),args := #[Operand.tmp 68,Operand.tmp 72],argTypes := #[73,3] },type:=0,pos := "printer.go:204",after := #[{ on:=0,ground:=Ground.data },{ on:=4,ground:=Ground.data }],guard:=none }:Oper) (args := #[.agg #[.slice (some ⟨bA,off,none⟩) n c,.func (.func 117) #[.pointer (some ⟨b,0,none⟩)] #[],.int .i64 d],.int .i64 (k:Int)]) own126x rfl rfl (by kernel_rfl) rfl rfl (HO.out _ _ (Kp.w0 HB.out hw5) hP5 (by simp;have:=HL.out;simp at this;omega)) ?_
 rintro e w2 ⟨rfl,hp2,hk2⟩
 have hS2:=hS.kp hk2 (by omega) (by omega) hbk
 refine .inr ⟨_,rfl,hS2,?_⟩
 simp only[ap]
 refine wpAnyH_done (by kernel_rfl) ?_ _
 have HP3:=Lib.hid hp2
 have HW3:=Lib.hid (hw5.trans hk2)
 clear hS hP5 hw5 hkd HS2 HP2 HW2 hp2 hk2 hS2
 go_wp2
 go_end0
 exact⟨rfl,by simpa using HP3.out,HW3.out⟩
theorem ex_binary {w0:World}{A:Option Addr}{l:List Tr.Nd}{n c b f:Nat}(hx:Px0 w0 A l n)(hr:RecE w0 A l n c b f)(d:Int)(p:Nat)(t:List UInt8)(w:World)(hpf:p<f+1)(hp:p<n)(hk:(ndA l p).kd=27)(hb:Below w0.heap.size w0 w)(h:Pg w0.heap.size b t w)(hl:t.length+(exT l (f+1) p).length≤140737488355328) :
  Calls Tryz.prog 66 #[PV A n c b d,.int .i64 (p:Int)] w (WrPost w0.heap.size b (t++exT l (f+1) p) (.tuple #[]) w):=by
 have hpf0:=hpf
 clear hpf0
 have hpl:p<l.length:=by rw[← hx.len];exact hp
 have hex:exT l (f+1) p=opT l (exT l f) (kidA l p 0)++[32]++(ndA l p).tx.data.toList++[32]++opT l (exT l f) (kidA l p 1):=by simp[exT,hk,txA]
 rw[hex]at hl ⊢
 clear hex
 obtain⟨bA,off,K,cK,rfl,hlt,c0,c1,c2,c3,c4,z5⟩:=node_at hx.nds hb p hpl
 rw[← ndA_eq hpl]at c0 c1 c2 c3 c4 z5
 rw[hk]at c0
 have hpz:(p:Int)<(n:Int):=by omega
 have H:=Lib.hid h
 have HB:=Lib.hid hb
 have hbw:=h.bw
 have hbl:=h.lt
 have HL:=Lib.hid hl
 obtain⟨k,j,hks,hkp,hjp,hke,hje⟩:=hx.ex.two p hpl hk
 have hkid:kidA l p 0=(k:Int):=by unfold kidA;rw[hks];rfl
 have hjid:kidA l p 1=(j:Int):=by unfold kidA;rw[hks];rfl
 rw[hkid,hjid]at hl ⊢
 have HL:=Lib.hid hl
 rw[hks]at c4 z5
 have c4:w.cell? ⟨bA,off+p*5+4,none⟩=some (.slice K 2 cK):=c4
 obtain⟨bk,ok,rfl,hbk,hck0⟩:=z5 (by simp)
 have hck:w0.cell? ⟨bk,ok,none⟩=some (.int .i64 (k:Int)):=hck0 0 (by simp)
 have hcj:w0.cell? ⟨bk,ok+1,none⟩=some (.int .i64 (j:Int)):=hck0 1 (by simp)
 have hkf:k<f:=by omega
 have hkn:k<n:=by omega
 have hjf:j<f:=by omega
 have hjn:j<n:=by omega
 clear hkid hjid hks hck0
 have HO:=Lib.hid (fun t' w' (q:Below w0.heap.size w0 w') (h':Pg w0.heap.size b t' w') (hl':t'.length+(opT l (exT l f) k).length≤140737488355328)=>operand_pg hx hr d k t' w' hkf hkn hke q h' hl')
 have HO2:=Lib.hid (fun t' w' (q:Below w0.heap.size w0 w') (h':Pg w0.heap.size b t' w') (hl':t'.length+(opT l (exT l f) j).length≤140737488355328)=>operand_pg hx hr d j t' w' hjf hjn hje q h' hl')
 unfold PV at HO HO2
 unfold PV
 generalize opT l (exT l f) (k:Int)=y at *
 generalize opT l (exT l f) (j:Int)=y2 at *
 generalize (ndA l p).n=nn at *
 generalize (ndA l p).pl=pl at *
 generalize (ndA l p).tx=tx at *
 have HX1:=Lib.hid (show SP w.heap.size (w.heap.size+1) [.slice (some ⟨bA,off,none⟩) n c,.func (.func 117) #[.pointer (some ⟨b,0,none⟩)] #[],.int .i64 d] [.int .i64 27,.int .i64 nn,.int .i64 pl,.string tx,.slice (some ⟨bk,ok,none⟩) 2 cK] bk ok (k:Int) ((w.alloc (.cells #[.slice (some ⟨bA,off,none⟩) n c,.func (.func 117) #[.pointer (some ⟨b,0,none⟩)] #[],.int .i64 d] 73)).alloc (.cells #[.int .i64 27,.int .i64 nn,.int .i64 pl,.string tx,.slice (some ⟨bk,ok,none⟩) 2 cK] 37)) by
  have b1:=Bx.new w 73 [.slice (some ⟨bA,off,none⟩) n c,.func (.func 117) #[.pointer (some ⟨b,0,none⟩)] #[],.int .i64 d]
  have b2:=Bx.new (w.alloc (.cells #[.slice (some ⟨bA,off,none⟩) n c,.func (.func 117) #[.pointer (some ⟨b,0,none⟩)] #[],.int .i64 d] 73)) 37 [.int .i64 27,.int .i64 nn,.int .i64 pl,.string tx,.slice (some ⟨bk,ok,none⟩) 2 cK]
  have b3:=b1.alloc (.cells #[.int .i64 27,.int .i64 nn,.int .i64 pl,.string tx,.slice (some ⟨bk,ok,none⟩) 2 cK] 37)
  rw[World.size_alloc]at b2
  refine⟨b3,b2,?_⟩
  have hb2:Below w0.heap.size w0 ((w.alloc (.cells #[.slice (some ⟨bA,off,none⟩) n c,.func (.func 117) #[.pointer (some ⟨b,0,none⟩)] #[],.int .i64 d] 73)).alloc (.cells #[.int .i64 27,.int .i64 nn,.int .i64 pl,.string tx,.slice (some ⟨bk,ok,none⟩) 2 cK] 37)):=(HB.out.alloc hbw _).alloc (by rw[World.size_alloc];omega) _
  exact(hb2.cell (p:=⟨bk,ok,none⟩) hbk).trans hck)
 have HX2:=Lib.hid (show SP w.heap.size (w.heap.size+1) [.slice (some ⟨bA,off,none⟩) n c,.func (.func 117) #[.pointer (some ⟨b,0,none⟩)] #[],.int .i64 d] [.int .i64 27,.int .i64 nn,.int .i64 pl,.string tx,.slice (some ⟨bk,ok,none⟩) 2 cK] bk (ok+1) (j:Int) ((w.alloc (.cells #[.slice (some ⟨bA,off,none⟩) n c,.func (.func 117) #[.pointer (some ⟨b,0,none⟩)] #[],.int .i64 d] 73)).alloc (.cells #[.int .i64 27,.int .i64 nn,.int .i64 pl,.string tx,.slice (some ⟨bk,ok,none⟩) 2 cK] 37)) by
  have b1:=Bx.new w 73 [.slice (some ⟨bA,off,none⟩) n c,.func (.func 117) #[.pointer (some ⟨b,0,none⟩)] #[],.int .i64 d]
  have b2:=Bx.new (w.alloc (.cells #[.slice (some ⟨bA,off,none⟩) n c,.func (.func 117) #[.pointer (some ⟨b,0,none⟩)] #[],.int .i64 d] 73)) 37 [.int .i64 27,.int .i64 nn,.int .i64 pl,.string tx,.slice (some ⟨bk,ok,none⟩) 2 cK]
  have b3:=b1.alloc (.cells #[.int .i64 27,.int .i64 nn,.int .i64 pl,.string tx,.slice (some ⟨bk,ok,none⟩) 2 cK] 37)
  rw[World.size_alloc]at b2
  refine⟨b3,b2,?_⟩
  have hb2:Below w0.heap.size w0 ((w.alloc (.cells #[.slice (some ⟨bA,off,none⟩) n c,.func (.func 117) #[.pointer (some ⟨b,0,none⟩)] #[],.int .i64 d] 73)).alloc (.cells #[.int .i64 27,.int .i64 nn,.int .i64 pl,.string tx,.slice (some ⟨bk,ok,none⟩) 2 cK] 37)):=(HB.out.alloc hbw _).alloc (by rw[World.size_alloc];omega) _
  exact(hb2.cell (p:=⟨bk,ok+1,none⟩) hbk).trans hcj)
 have HW1:=Lib.hid (((Kp.refl w0.heap.size b w).alloc hbw (.cells #[.slice (some ⟨bA,off,none⟩) n c,.func (.func 117) #[.pointer (some ⟨b,0,none⟩)] #[],.int .i64 d] 73)).alloc (by rw[World.size_alloc];omega) (.cells #[.int .i64 27,.int .i64 nn,.int .i64 pl,.string tx,.slice (some ⟨bk,ok,none⟩) 2 cK] 37))
 have HP1:=Lib.hid ((H.out.alloc (.cells #[.slice (some ⟨bA,off,none⟩) n c,.func (.func 117) #[.pointer (some ⟨b,0,none⟩)] #[],.int .i64 d] 73)).alloc (.cells #[.int .i64 27,.int .i64 nn,.int .i64 pl,.string tx,.slice (some ⟨bk,ok,none⟩) 2 cK] 37))
 clear hk hr hx hb h hl hpl hpf hke hck hje hcj
 go_enter Tryz.func66,Tryz.ntmps66
 go_upto_region 19 with(fail)
 obtain⟨W4,hW4⟩:∃W4:World,((w.alloc (.cells #[.slice (some ⟨bA,off,none⟩) n c,.func (.func 117) #[.pointer (some ⟨b,0,none⟩)] #[],.int .i64 d] 73)).alloc (.cells #[.int .i64 27,.int .i64 nn,.int .i64 pl,.string tx,.slice (some ⟨bk,ok,none⟩) 2 cK] 37))=W4:=⟨_,rfl⟩
 rw[hW4]at HX1 HX2 HW1 HP1 ⊢
 clear hW4
 have hbk2:=hbk
 obtain⟨W5,hW5⟩:∃W5:World,{ W4 with drawn:=W4.drawn+1 }=W5:=⟨_,rfl⟩
 have hkd:Kp w0.heap.size b W4 W5:=by rw[← hW5];exact⟨Below.drew (Below.refl _ _),(Lib.OthersKept.refl _ _ W4).drew⟩
 have hS:SP w.heap.size (w.heap.size+1) [.slice (some ⟨bA,off,none⟩) n c,.func (.func 117) #[.pointer (some ⟨b,0,none⟩)] #[],.int .i64 d] [.int .i64 27,.int .i64 nn,.int .i64 pl,.string tx,.slice (some ⟨bk,ok,none⟩) 2 cK] bk ok (k:Int) W5:=HX1.out.kp hkd (by omega) (by omega) hbk
 have hP5:Pg w0.heap.size b t W5:=by rw[← hW5];exact HP1.out
 have hw5:=HW1.out.trans hkd
 refine wp_region_held (S:=SP w.heap.size (w.heap.size+1) [.slice (some ⟨bA,off,none⟩) n c,.func (.func 117) #[.pointer (some ⟨b,0,none⟩)] #[],.int .i64 d] [.int .i64 27,.int .i64 nn,.int .i64 pl,.string tx,.slice (some ⟨bk,ok,none⟩) 2 cK] bk ok (k:Int)) (by kernel_rfl) ?_
 rw[hW5]
 clear hW5
 have hT5:=HX2.out.kp hkd (by omega) (by omega) hbk
 refine hpu 0 (.agg #[.slice (some ⟨bA,off,none⟩) n c,.func (.func 117) #[.pointer (some ⟨b,0,none⟩)] #[],.int .i64 d]) (by kernel_rfl) rfl rfl (fun _ _ _ h=>h) rfl (y_load rfl rfl (fun w' q=>run_load73 ((q.1.cell 0).trans rfl) ((q.1.cell 1).trans rfl) ((q.1.cell 2).trans rfl))) hS ?_
 simp only[ap]
 refine hpu 1 (.pointer (some ⟨w.heap.size+1,4,none⟩)) (by kernel_rfl) rfl rfl (fun _ _ _ h=>h) rfl (y_field rfl rfl (run_field37_4 _)) hS ?_
 simp only[ap]
 refine hpu 2 (.slice (some ⟨bk,ok,none⟩) 2 cK) (by kernel_rfl) rfl rfl (fun _ _ _ h=>h) rfl (y_load rfl rfl (fun w' q=>run_load35x ((q.2.1.cell 4).trans rfl))) hS ?_
 simp only[ap]
 refine hpu 3 (.pointer (some ⟨bk,ok+0,none⟩)) (by kernel_rfl) rfl rfl (fun _ _ _ h=>h) rfl (y_index rfl rfl rfl (fun w=>run_index35 bk ok 2 cK 0 (by decide) w)) hS ?_
 simp only[ap]
 refine hpu 4 (.int .i64 (k:Int)) (by kernel_rfl) rfl rfl (fun _ _ _ h=>h) rfl (y_load rfl rfl (fun w' q=>run_load3 q.2.2)) hS ?_
 simp only[ap]
 refine h_callx 5 ({ dst:=some 81,op:=Op.call { callee:=Callee.value (Operand.func 126),args := #[Operand.tmp 76,Operand.tmp 80],argTypes := #[73,3] },type:=0,pos := "printer.go:206",after := #[{ on:=0,ground:=Ground.data },{ on:=4,ground:=Ground.data }],guard:=none }:Oper) (args := #[.agg #[.slice (some ⟨bA,off,none⟩) n c,.func (.func 117) #[.pointer (some ⟨b,0,none⟩)] #[],.int .i64 d],.int .i64 (k:Int)]) own126x rfl rfl (by kernel_rfl) rfl rfl (HO.out _ _ (Kp.w0 HB.out hw5) hP5 (by have:=HL.out;simp at this;omega)) ?_
 rintro e w2 ⟨rfl,hp2,hk2⟩
 have hS2:=hS.kp hk2 (by omega) (by omega) hbk
 refine .inr ⟨_,rfl,hS2,?_⟩
 simp only[ap]
 refine wpAnyH_done (by kernel_rfl) ?_ _
 have HP3:=Lib.hid hp2
 have HW3:=Lib.hid (hw5.trans hk2)
 have HT3:=Lib.hid (hT5.kp hk2 (by omega) (by omega) hbk)
 have e1:=(hS2.1.cell 1).trans rfl
 have n3:=(hS2.2.1.cell 3).trans rfl
 clear hS hP5 hw5 hkd HX1 HX2 HP1 HW1 hp2 hk2 hS2 hT5
 go_wp2_with (go_at_call 117;refine(write_new w0.heap.size b _ [[32],tx.data.toList,[32]] _ HP3.out (by simp;have:=HL.out;simp at this;omega) (by simp) 3 rfl _ (by simp[bsX_of];rfl) _ rfl).mono ?_)
 rintro e w3 ⟨rfl,hp3,hk3⟩
 have HS4:=Lib.hid (HT3.out.kp hk3 (by omega) (by omega) hbk)
 have HP4:=Lib.hid hp3
 have HW4:=Lib.hid (HW3.out.trans hk3)
 clear HW3 HP3 HT3 hp3 hk3 e1 n3
 go_upto_region 21 with(fail)
 obtain⟨W6,hW6⟩:∃W6:World,{ w3 with drawn:=w3.drawn+1 }=W6:=⟨_,rfl⟩
 have hkd:Kp w0.heap.size b w3 W6:=by rw[← hW6];exact⟨Below.drew (Below.refl _ _),(Lib.OthersKept.refl _ _ w3).drew⟩
 have hS:SP w.heap.size (w.heap.size+1) [.slice (some ⟨bA,off,none⟩) n c,.func (.func 117) #[.pointer (some ⟨b,0,none⟩)] #[],.int .i64 d] [.int .i64 27,.int .i64 nn,.int .i64 pl,.string tx,.slice (some ⟨bk,ok,none⟩) 2 cK] bk (ok+1) (j:Int) W6:=HS4.out.kp hkd (by omega) (by omega) hbk
 have hP5:Pg w0.heap.size b (t++y++[[32],tx.data.toList,[32]].flatten) W6:=by rw[← hW6];exact HP4.out
 have hw5:=HW4.out.trans hkd
 refine wp_region_held (S:=SP w.heap.size (w.heap.size+1) [.slice (some ⟨bA,off,none⟩) n c,.func (.func 117) #[.pointer (some ⟨b,0,none⟩)] #[],.int .i64 d] [.int .i64 27,.int .i64 nn,.int .i64 pl,.string tx,.slice (some ⟨bk,ok,none⟩) 2 cK] bk (ok+1) (j:Int)) (by kernel_rfl) ?_
 rw[hW6]
 clear hW6
 refine hpu 0 (.agg #[.slice (some ⟨bA,off,none⟩) n c,.func (.func 117) #[.pointer (some ⟨b,0,none⟩)] #[],.int .i64 d]) (by kernel_rfl) rfl rfl (fun _ _ _ h=>h) rfl (y_load rfl rfl (fun w' q=>run_load73 ((q.1.cell 0).trans rfl) ((q.1.cell 1).trans rfl) ((q.1.cell 2).trans rfl))) hS ?_
 simp only[ap]
 refine hpu 1 (.pointer (some ⟨w.heap.size+1,4,none⟩)) (by kernel_rfl) rfl rfl (fun _ _ _ h=>h) rfl (y_field rfl rfl (run_field37_4 _)) hS ?_
 simp only[ap]
 refine hpu 2 (.slice (some ⟨bk,ok,none⟩) 2 cK) (by kernel_rfl) rfl rfl (fun _ _ _ h=>h) rfl (y_load rfl rfl (fun w' q=>run_load35x ((q.2.1.cell 4).trans rfl))) hS ?_
 simp only[ap]
 refine hpu 3 (.pointer (some ⟨bk,ok+1,none⟩)) (by kernel_rfl) rfl rfl (fun _ _ _ h=>h) rfl (y_index rfl rfl rfl (fun w=>run_index35 bk ok 2 cK 1 (by decide) w)) hS ?_
 simp only[ap]
 refine hpu 4 (.int .i64 (j:Int)) (by kernel_rfl) rfl rfl (fun _ _ _ h=>h) rfl (y_load rfl rfl (fun w' q=>run_load3 q.2.2)) hS ?_
 simp only[ap]
 refine h_callx 5 ({ dst:=some 93,op:=Op.call { callee:=Callee.value (Operand.func 126),args := #[Operand.tmp 88,Operand.tmp 92],argTypes := #[73,3] },type:=0,pos := "printer.go:208",after := #[{ on:=0,ground:=Ground.data },{ on:=4,ground:=Ground.data }],guard:=none }:Oper) (args := #[.agg #[.slice (some ⟨bA,off,none⟩) n c,.func (.func 117) #[.pointer (some ⟨b,0,none⟩)] #[],.int .i64 d],.int .i64 (j:Int)]) own126x rfl rfl (by kernel_rfl) rfl rfl (HO2.out _ _ (Kp.w0 HB.out hw5) hP5 (by simp;have:=HL.out;simp at this;omega)) ?_
 rintro e w4 ⟨rfl,hp4,hk4⟩
 have hS2:=hS.kp hk4 (by omega) (by omega) hbk
 refine .inr ⟨_,rfl,hS2,?_⟩
 simp only[ap]
 refine wpAnyH_done (by kernel_rfl) ?_ _
 have HP5:=Lib.hid hp4
 have HW5:=Lib.hid (hw5.trans hk4)
 clear hS hP5 hw5 hkd HS4 HP4 HW4 hp4 hk4 hS2
 go_wp2
 go_end0
 exact⟨rfl,by simpa using HP5.out,HW5.out⟩
theorem expr_pg {w0:World}{A:Option Addr}{l:List Tr.Nd}{n:Nat}(c b:Nat)(hx:Px0 w0 A l n):∀f,RecE w0 A l n c b f
 |0=>fun p d t w hp=>absurd hp (Nat.not_lt_zero _)
 |f+1=>fun p d t w hpf hp he hb h hl=>by
  have hr:=expr_pg c b hx f
  have h8:(ndA l p).kd=20∨(ndA l p).kd=21∨(ndA l p).kd=22∨(ndA l p).kd=23∨(ndA l p).kd=24∨(ndA l p).kd=25∨(ndA l p).kd=26∨(ndA l p).kd=27:=by
   unfold Tr.expB at he
   simp only[Bool.and_eq_true,decide_eq_true_eq]at he
   omega
  rcases h8 with k |k |k |k |k |k |k |k
  ·exact ex_const hx hr d p t w hpf hp k hb h hl
  ·exact ex_truth hx hr d p t w hpf hp k hb h hl
  ·exact ex_var hx hr d p t w hpf hp k hb h hl
  ·exact ex_index hx hr d p t w hpf hp k hb h hl
  ·exact ex_len hx hr d p t w hpf hp k hb h hl
  ·exact ex_addr hx hr d p t w hpf hp k hb h hl
  ·exact ex_unary hx hr d p t w hpf hp k hb h hl
  ·exact ex_binary hx hr d p t w hpf hp k hb h hl
end
end Go.Proofs.YteecfjhjllajlaaGreatDoor
