/- PROVED here: parts Xp of the claim. No condition but those in each theorem's own head. -/
import Derived.Test.YteecfjhjllajlaaGreatDoorM15
namespace Go.Proofs.YteecfjhjllajlaaGreatDoor
section
set_option maxHeartbeats 4000000
set_option maxRecDepth 100000
open Go Go.RowKit
open Tr (Bx heap1 bt Nds Ints)
theorem own192x:Own 192:=⟨_,Tryz.func192,by kernel_rfl,by kernel_rfl⟩
theorem run_slice35 (b off n c:Nat)(h1:1≤n)(w:World):(Instr.sliceAt 35 (.slice (some ⟨b,off,none⟩) n c) (some (.int .i64 1)) none none).run Tryz.prog w = .ok (.slice (some ⟨b,if c=1 then off else off+1,none⟩) (n-1) (c-1)) w:=by
 have h:(1:Int)≤(n:Int):=by omega
 simp[go_sem,Tryz.underlying35,h]
 split<;>rfl
section
variable {a:Act} {o:Oper} {S:World→Prop}
theorem y_slice1 {x:Operand}{u r:Value}(ho:o.op = .slice 35 x (some (.const (.int .i64 1))) none none)(hx:a.eval x=u)(hr:∀w,(Instr.sliceAt 35 u (some (.int .i64 1)) none none).run Tryz.prog w = .ok r w):∀w,S w→(execOp a.eval o).run Tryz.prog w = .ok (.value r) w:=fun w _=>by
 have hc:a.eval (.const (.int .i64 1)) = .int .i64 1:=rfl
 unfold execOp
 simp only[ho,hx,hc,Option.map_some,Option.map_none,Sem.run_bind,hr w,Sem.run_pure,Result.andThen_ok]
theorem y_bound {x:Operand}{u:Value}(ho:o.op = .makeFunc (.func 66) #[x] #[])(hx:a.eval x=u):∀w,S w→(execOp a.eval o).run Tryz.prog w = .ok (.value (.func (.func 66) #[u] #[])) w:=fun w _=>by
 unfold execOp
 simp only[ho,List.map_toArray,List.map_cons,List.map_nil,hx]
 rfl
end
section
variable {ops:Array Oper} {Q:Exit→Act→World→Prop} {a:Act} {w:World} {o:Oper}
theorem slice402 {K:Act→World→Prop}{x y:Operand}{s u:ByteArray}(ho:o.op = .buildSlice 40 2 #[(0,x),(1,y)])(hx:a.eval x = .string s)(hy:a.eval y = .string u)
  (h:K (a.put o.dst (.slice (some ⟨w.heap.size,0,none⟩) 2 2)) (w.alloc (.cells #[.string s,.string u] 9))):o.wp Tryz.prog a w K Q:=by
 unfold Oper.wp execOp
 simp only[ho,List.map_toArray,List.map_cons,List.map_nil,hx,hy]
 simp[go_sem]
 exact h
end
def calT (l:List Tr.Nd)(f:Nat)(tx:List UInt8)(k:Int)(ks:List Int):List UInt8:=(if tx=[] then [] else tx++[32,61,32])++[99,97,108,108,32]++txA l k++lisT (ks.map (exT l f))
theorem call_pg {w0:World}{A:Option Addr}{l:List Tr.Nd}{n c b f:Nat}(hx:Px0 w0 A l n)(hr:RecE w0 A l n c b f)(d kd nn pl:Int)(tx:ByteArray)(bk ok m ck k:Nat)(ks:List Int)(t:List UInt8)(w:World)(hkn:k<n)(hm:m=ks.length+1)(hm2:m≤100000)(hcap:2≤m→ck≠1)(hbk:bk<w0.heap.size)
  (hcs:∀i (hi:i<((k:Int) :: ks).length),w0.cell? ⟨bk,ok+i,none⟩=some (.int .i64 (((k:Int) :: ks)[i]))) (hks:∀x ∈ ks,∃x2:Nat,x=(x2:Int)∧x2<f∧x2<n∧Tr.expB (ndA l x2).kd=true) (hb:Below w0.heap.size w0 w) (h:Pg w0.heap.size b t w)
  (hl:t.length+(calT l f tx.data.toList k ks).length≤140737488355328):Calls Tryz.prog 133 #[PV A n c b d,.agg #[.int .i64 kd,.int .i64 nn,.int .i64 pl,.string tx,.slice (some ⟨bk,ok,none⟩) m ck]] w (WrPost w0.heap.size b (t++calT l f tx.data.toList k ks) (.tuple #[]) w):=by
 have hkl:k<l.length:=by rw[← hx.len];exact hkn
 obtain⟨bA,off,rfl,hbA,hcA⟩:=hx.nds (by omega)
 obtain⟨K2,c2',y0,y1,y2,y3,y4,y5⟩:=hcA k hkl
 have ctx:=(hb.cell (p:=⟨bA,off+k*5+3,none⟩) hbA).trans y3
 rw[← ndA_eq hkl]at ctx
 have hsz:=hb.size
 have hckw:=(hb.cell (p:=⟨bk,ok,none⟩) hbk).trans (hcs 0 (by simp))
 have hm0:0<m:=by omega
 have HT:=Lib.hid (fun t' w' (q:Below w0.heap.size w0 w') (h':Pg w0.heap.size b t' w') (hl':t'.length+(lisT (ks.map (exT l f))).length≤140737488355328)=>list66_pg (B:=w0.heap.size) (some ⟨bA,off,none⟩) n c b d d (some ⟨bk,if ck=1 then ok else ok+1,none⟩) (m-1) (ck-1) ks (exT l f) t' w' h' (by omega) (by omega) (fun w2 q2 h0=>by
  have hne:ck≠1:=hcap (by omega)
  rw[if_neg hne]
  exact⟨bk,ok+1,rfl,Nat.lt_of_lt_of_le hbk (by have:=q.size;have:=q2.1.size;omega),fun i hi=>((q.trans q2.1).cell (p:=⟨bk,ok+1+i,none⟩) hbk).trans (by have:=hcs (i+1) (by simpa using hi);rw[show ok+1+i=ok+(i+1)by omega];simpa using this)⟩) (fun x hx' t2 w2 q2 h2 hl2=>by
  obtain⟨x2,rfl,hxf,hxn,hxe⟩:=hks x hx'
  exact hr x2 d t2 w2 hxf hxn hxe (q.trans q2.1) h2 hl2) hl')
 unfold calT txA at hl ⊢
 have H:=Lib.hid h
 have HB:=Lib.hid hb
 have hbw:=h.bw
 have hbl:=h.lt
 unfold PV at HT
 unfold PV
 generalize lisT (ks.map (exT l f))=y at *
 generalize (ndA l k).tx=tx2 at *
 have HX:=Lib.hid (show SQ w.heap.size (w.heap.size+1) [.slice (some ⟨bA,off,none⟩) n c,.func (.func 117) #[.pointer (some ⟨b,0,none⟩)] #[],.int .i64 d] [.int .i64 kd,.int .i64 nn,.int .i64 pl,.string tx,.slice (some ⟨bk,ok,none⟩) m ck] bk ok (k:Int) bA (off+k*5+3) tx2 ((w.alloc (.cells #[.slice (some ⟨bA,off,none⟩) n c,.func (.func 117) #[.pointer (some ⟨b,0,none⟩)] #[],.int .i64 d] 73)).alloc (.cells #[.int .i64 kd,.int .i64 nn,.int .i64 pl,.string tx,.slice (some ⟨bk,ok,none⟩) m ck] 37)) by
  have b1:=s2_new w [.slice (some ⟨bA,off,none⟩) n c,.func (.func 117) #[.pointer (some ⟨b,0,none⟩)] #[],.int .i64 d] [.int .i64 kd,.int .i64 nn,.int .i64 pl,.string tx,.slice (some ⟨bk,ok,none⟩) m ck]
  have hb2:Below w.heap.size w ((w.alloc (.cells #[.slice (some ⟨bA,off,none⟩) n c,.func (.func 117) #[.pointer (some ⟨b,0,none⟩)] #[],.int .i64 d] 73)).alloc (.cells #[.int .i64 kd,.int .i64 nn,.int .i64 pl,.string tx,.slice (some ⟨bk,ok,none⟩) m ck] 37)):=((Below.refl _ _).alloc (Nat.le_refl _) _).alloc (by rw[World.size_alloc];omega) _
  exact⟨b1.1,b1.2,(hb2.cell (p:=⟨bk,ok,none⟩) (by show bk<w.heap.size;omega)).trans hckw,(hb2.cell (p:=⟨bA,off+k*5+3,none⟩) (by show bA<w.heap.size;omega)).trans ctx⟩)
 have HW:=Lib.hid (((Kp.refl w0.heap.size b w).alloc hbw (.cells #[.slice (some ⟨bA,off,none⟩) n c,.func (.func 117) #[.pointer (some ⟨b,0,none⟩)] #[],.int .i64 d] 73)).alloc (by rw[World.size_alloc];omega) (.cells #[.int .i64 kd,.int .i64 nn,.int .i64 pl,.string tx,.slice (some ⟨bk,ok,none⟩) m ck] 37))
 have HP:=Lib.hid ((H.out.alloc (.cells #[.slice (some ⟨bA,off,none⟩) n c,.func (.func 117) #[.pointer (some ⟨b,0,none⟩)] #[],.int .i64 d] 73)).alloc (.cells #[.int .i64 kd,.int .i64 nn,.int .i64 pl,.string tx,.slice (some ⟨bk,ok,none⟩) m ck] 37))
 clear hm hx hr hks hcs hcap y0 y1 y2 y3 y4 y5 hcA ctx hckw hb h hkl
 by_cases hz:tx.data.toList=[]
 ·rw[if_pos hz]at hl ⊢
  have HL:=Lib.hid hl
  have q1:(tx.toList==[])=true:=by rw[ByteArray.toList_eq];exact beq_iff_eq.2 hz
  have q2:tx.toList=[]:=by rw[ByteArray.toList_eq];exact hz
  clear hz hl
  go_enter Tryz.func133,Tryz.ntmps133
  go_upto_region 3 with(fail)
  obtain⟨W4,hW4⟩:∃W4:World,((w.alloc (.cells #[.slice (some ⟨bA,off,none⟩) n c,.func (.func 117) #[.pointer (some ⟨b,0,none⟩)] #[],.int .i64 d] 73)).alloc (.cells #[.int .i64 kd,.int .i64 nn,.int .i64 pl,.string tx,.slice (some ⟨bk,ok,none⟩) m ck] 37))=W4:=⟨_,rfl⟩
  rw[hW4]at HX HW HP ⊢
  clear hW4
  obtain⟨W5,hW5⟩:∃W5:World,{ W4 with drawn:=W4.drawn+1 }=W5:=⟨_,rfl⟩
  have hkd:Kp w0.heap.size b W4 W5:=by rw[← hW5];exact⟨Below.drew (Below.refl _ _),(Lib.OthersKept.refl _ _ W4).drew⟩
  have hS:=HX.out.kp hkd (by omega) (by omega) hbk hbA
  have hP5:Pg w0.heap.size b t W5:=by rw[← hW5];exact HP.out
  have hw5:=HW.out.trans hkd
  refine wp_region_held (S:=SQ w.heap.size (w.heap.size+1) [.slice (some ⟨bA,off,none⟩) n c,.func (.func 117) #[.pointer (some ⟨b,0,none⟩)] #[],.int .i64 d] [.int .i64 kd,.int .i64 nn,.int .i64 pl,.string tx,.slice (some ⟨bk,ok,none⟩) m ck] bk ok (k:Int) bA (off+k*5+3) tx2) (by kernel_rfl) ?_
  rw[hW5]
  clear hW5
  refine hpu 0 (.pointer (some ⟨w.heap.size,1,none⟩)) (by kernel_rfl) rfl rfl (fun _ _ _ h=>h) rfl (y_field rfl rfl (run_field73_1 _)) hS ?_
  simp only[ap]
  refine hpu 1 (.func (.func 117) #[.pointer (some ⟨b,0,none⟩)] #[]) (by kernel_rfl) rfl rfl (fun _ _ _ h=>h) rfl (y_load rfl rfl (fun w' q=>run_load71 ((q.1.cell 1).trans rfl))) hS ?_
  simp only[ap]
  refine hpu 2 (.pointer (some ⟨w.heap.size,0,none⟩)) (by kernel_rfl) rfl rfl (fun _ _ _ h=>h) rfl (y_field rfl rfl (run_field73_0 _)) hS ?_
  simp only[ap]
  refine hpu 3 (.slice (some ⟨bA,off,none⟩) n c) (by kernel_rfl) rfl rfl (fun _ _ _ h=>h) rfl (y_load rfl rfl (fun w' q=>run_load23o ((q.1.cell 0).trans rfl))) hS ?_
  simp only[ap]
  refine hpu 4 (.pointer (some ⟨w.heap.size+1,4,none⟩)) (by kernel_rfl) rfl rfl (fun _ _ _ h=>h) rfl (y_field rfl rfl (run_field37_4 _)) hS ?_
  simp only[ap]
  refine hpu 5 (.slice (some ⟨bk,ok,none⟩) m ck) (by kernel_rfl) rfl rfl (fun _ _ _ h=>h) rfl (y_load rfl rfl (fun w' q=>run_load35x ((q.2.1.cell 4).trans rfl))) hS ?_
  simp only[ap]
  refine hpu 6 (.pointer (some ⟨bk,ok+0,none⟩)) (by kernel_rfl) rfl rfl (fun _ _ _ h=>h) rfl (y_index rfl rfl rfl (fun w=>run_index35 bk ok m ck 0 hm0 w)) hS ?_
  simp only[ap]
  refine hpu 7 (.int .i64 (k:Int)) (by kernel_rfl) rfl rfl (fun _ _ _ h=>h) rfl (y_load rfl rfl (fun w' q=>run_load3 q.2.2.1)) hS ?_
  simp only[ap]
  refine hpu 8 (.pointer (some ⟨bA,off+k*5,none⟩)) (by kernel_rfl) rfl rfl (fun _ _ _ h=>h) rfl (y_index rfl rfl rfl (fun w=>run_index23 bA off n c k hkn w)) hS ?_
  simp only[ap]
  refine hpu 9 (.pointer (some ⟨bA,off+k*5+3,none⟩)) (by kernel_rfl) rfl rfl (fun _ _ _ h=>h) rfl (y_field rfl rfl (run_field37_3o _ _)) hS ?_
  simp only[ap]
  refine hpu 10 (.string tx2) (by kernel_rfl) rfl rfl (fun _ _ _ h=>h) rfl (y_load rfl rfl (fun w' q=>run_load9 q.2.2.2)) hS ?_
  simp only[ap]
  have hS3:SQ w.heap.size (w.heap.size+1) [.slice (some ⟨bA,off,none⟩) n c,.func (.func 117) #[.pointer (some ⟨b,0,none⟩)] #[],.int .i64 d] [.int .i64 kd,.int .i64 nn,.int .i64 pl,.string tx,.slice (some ⟨bk,ok,none⟩) m ck] bk ok (k:Int) bA (off+k*5+3) tx2 (W5.alloc (.cells #[.string ⟨#[99,97,108,108,32]⟩,.string tx2] 9)):=hS.kp ((Kp.refl w0.heap.size b W5).alloc hP5.bw _) (by omega) (by omega) hbk hbA
  refine h_one 11 ({ dst:=some 24,op:=Op.buildSlice 40 2 #[(0,Operand.const (Value.string { data := #[99,97,108,108,32] })),(1,Operand.tmp 23)],type:=40,pos := "printer.go:167",after := #[{ on:=10,ground:=Ground.data }],guard:=none }:Oper) rfl (by kernel_rfl) rfl (slice402 rfl rfl rfl ⟨hS3,?_⟩)
  simp only[ap]
  refine h_callv 12 ({ dst:=some 25,op:=Op.call { callee:=Callee.value (Operand.tmp 14),args := #[Operand.tmp 24],argTypes := #[40] },type:=0,pos := "printer.go:167",after := #[{ on:=1,ground:=Ground.data },{ on:=11,ground:=Ground.data }],guard:=none }:Oper) (pre := #[.pointer (some ⟨b,0,none⟩)]) (args := #[.slice (some ⟨W5.heap.size,0,none⟩) 2 2]) own117x rfl rfl (by kernel_rfl) rfl rfl rfl (write_new w0.heap.size b t [[99,97,108,108,32],tx2.data.toList] W5 hP5 (by have:=HL.out;simp only[List.length_append,List.length_cons,List.length_nil,List.flatten_cons,List.flatten_nil]at this ⊢;omega) (by simp) 2 rfl _ (by simp[bsX_of];rfl) _ rfl) ?_
  rintro e w3 ⟨rfl,hp3,hk3⟩
  have hS4:=hS.kp hk3 (by omega) (by omega) hbk hbA
  refine .inr ⟨_,rfl,hS4,?_⟩
  simp only[ap]
  refine wpAnyH_done (by kernel_rfl) ?_ _
  have HP3:=Lib.hid hp3
  have HW3:=Lib.hid (hw5.trans hk3)
  have HS3:=Lib.hid hS4
  clear hS hS3 hS4 hP5 hw5 hk3 hp3 hkd
  go_upto_region 4 with(fail)
  obtain⟨W6,hW6⟩:∃W6:World,{ w3 with drawn:=w3.drawn+1 }=W6:=⟨_,rfl⟩
  have hkd:Kp w0.heap.size b w3 W6:=by rw[← hW6];exact⟨Below.drew (Below.refl _ _),(Lib.OthersKept.refl _ _ w3).drew⟩
  have hS:=HS3.out.kp hkd (by omega) (by omega) hbk hbA
  have hP5:Pg w0.heap.size b (t++([[99,97,108,108,32],tx2.data.toList]:List (List UInt8)).flatten) W6:=by rw[← hW6];exact HP3.out
  have hw5:=HW3.out.trans hkd
  refine wp_region_held (S:=SQ w.heap.size (w.heap.size+1) [.slice (some ⟨bA,off,none⟩) n c,.func (.func 117) #[.pointer (some ⟨b,0,none⟩)] #[],.int .i64 d] [.int .i64 kd,.int .i64 nn,.int .i64 pl,.string tx,.slice (some ⟨bk,ok,none⟩) m ck] bk ok (k:Int) bA (off+k*5+3) tx2) (by kernel_rfl) ?_
  rw[hW6]
  clear hW6
  refine hpu 0 (.agg #[.slice (some ⟨bA,off,none⟩) n c,.func (.func 117) #[.pointer (some ⟨b,0,none⟩)] #[],.int .i64 d]) (by kernel_rfl) rfl rfl (fun _ _ _ h=>h) rfl (y_load rfl rfl (fun w' q=>run_load73 ((q.1.cell 0).trans rfl) ((q.1.cell 1).trans rfl) ((q.1.cell 2).trans rfl))) hS ?_
  simp only[ap]
  refine hpu 1 (.pointer (some ⟨w.heap.size+1,4,none⟩)) (by kernel_rfl) rfl rfl (fun _ _ _ h=>h) rfl (y_field rfl rfl (run_field37_4 _)) hS ?_
  simp only[ap]
  refine hpu 2 (.slice (some ⟨bk,ok,none⟩) m ck) (by kernel_rfl) rfl rfl (fun _ _ _ h=>h) rfl (y_load rfl rfl (fun w' q=>run_load35x ((q.2.1.cell 4).trans rfl))) hS ?_
  simp only[ap]
  refine hpu 3 (.slice (some ⟨bk,if ck=1 then ok else ok+1,none⟩) (m-1) (ck-1)) (by kernel_rfl) rfl rfl (fun _ _ _ h=>h) rfl (y_slice1 rfl rfl (fun w=>run_slice35 bk ok m ck (by omega) w)) hS ?_
  simp only[ap]
  refine hpu 4 (.agg #[.slice (some ⟨bA,off,none⟩) n c,.func (.func 117) #[.pointer (some ⟨b,0,none⟩)] #[],.int .i64 d]) (by kernel_rfl) rfl rfl (fun _ _ _ h=>h) rfl (y_load rfl rfl (fun w' q=>run_load73 ((q.1.cell 0).trans rfl) ((q.1.cell 1).trans rfl) ((q.1.cell 2).trans rfl))) hS ?_
  simp only[ap]
  refine hpu 5 (.func (.func 66) #[.agg #[.slice (some ⟨bA,off,none⟩) n c,.func (.func 117) #[.pointer (some ⟨b,0,none⟩)] #[],.int .i64 d]] #[]) (by kernel_rfl) rfl rfl (fun _ _ _ h=>h) rfl (y_bound rfl rfl) hS ?_
  simp only[ap]
  refine h_callx 6 ({ dst:=some 32,op:=Op.call { callee:=Callee.value (Operand.func 192),args := #[Operand.tmp 26,Operand.tmp 29,Operand.tmp 31],argTypes := #[73,35,70] },type:=0,pos := "printer.go:168",after := #[{ on:=0,ground:=Ground.data },{ on:=3,ground:=Ground.data },{ on:=5,ground:=Ground.data }],guard:=none }:Oper) (args := #[.agg #[.slice (some ⟨bA,off,none⟩) n c,.func (.func 117) #[.pointer (some ⟨b,0,none⟩)] #[],.int .i64 d],(.slice (some ⟨bk,if ck=1 then ok else ok+1,none⟩) (m-1) (ck-1)),.func (.func 66) #[.agg #[.slice (some ⟨bA,off,none⟩) n c,.func (.func 117) #[.pointer (some ⟨b,0,none⟩)] #[],.int .i64 d]] #[]]) own192x rfl rfl (by kernel_rfl) rfl rfl (HT.out _ _ (Kp.w0 HB.out hw5) hP5 (by have:=HL.out;simp only[List.length_append,List.length_cons,List.length_nil,List.flatten_cons,List.flatten_nil]at this ⊢;omega)) ?_
  rintro e w4 ⟨rfl,hp2,hk2⟩
  have hS2:=hS.kp hk2 (by omega) (by omega) hbk hbA
  refine .inr ⟨_,rfl,hS2,?_⟩
  simp only[ap]
  refine wpAnyH_done (by kernel_rfl) ?_ _
  have HP4:=Lib.hid hp2
  have HW4:=Lib.hid (hw5.trans hk2)
  clear hS hP5 hw5 hkd HS3 HP3 HW3 hp2 hk2 hS2
  go_end0
  exact⟨rfl,by simpa using HP4.out,HW4.out⟩
 ·rw[if_neg hz]at hl ⊢
  have HL:=Lib.hid hl
  have q1:(tx.toList==[])=false:=by rw[ByteArray.toList_eq];exact beq_eq_false_iff_ne.2 hz
  have q2:¬tx.toList=[]:=by rw[ByteArray.toList_eq];exact hz
  clear hz hl
  go_enter Tryz.func133,Tryz.ntmps133
  go_wp2_with (go_at_call 117;refine(write_new w0.heap.size b t [tx.data.toList,[32,61,32]] _ HP.out (by have:=HL.out;simp only[List.length_append,List.length_cons,List.length_nil,List.flatten_cons,List.flatten_nil]at this ⊢;omega) (by simp) 2 rfl _ (by simp[bsX_of];rfl) _ (by simp[World.size_alloc])).mono ?_)
  rintro e w1 ⟨rfl,hp1,hk1⟩
  have HS2:=Lib.hid (HX.out.kp hk1 (by omega) (by omega) hbk hbA)
  have HP2:=Lib.hid hp1
  have HW2:=Lib.hid (HW.out.trans hk1)
  clear HX HW HP hp1 hk1
  go_upto_region 3 with(fail)
  obtain⟨W5,hW5⟩:∃W5:World,{ w1 with drawn:=w1.drawn+1 }=W5:=⟨_,rfl⟩
  have hkd:Kp w0.heap.size b w1 W5:=by rw[← hW5];exact⟨Below.drew (Below.refl _ _),(Lib.OthersKept.refl _ _ w1).drew⟩
  have hS:=HS2.out.kp hkd (by omega) (by omega) hbk hbA
  have hP5:Pg w0.heap.size b (t++([tx.data.toList,[32,61,32]]:List (List UInt8)).flatten) W5:=by rw[← hW5];exact HP2.out
  have hw5:=HW2.out.trans hkd
  refine wp_region_held (S:=SQ w.heap.size (w.heap.size+1) [.slice (some ⟨bA,off,none⟩) n c,.func (.func 117) #[.pointer (some ⟨b,0,none⟩)] #[],.int .i64 d] [.int .i64 kd,.int .i64 nn,.int .i64 pl,.string tx,.slice (some ⟨bk,ok,none⟩) m ck] bk ok (k:Int) bA (off+k*5+3) tx2) (by kernel_rfl) ?_
  rw[hW5]
  clear hW5
  refine hpu 0 (.pointer (some ⟨w.heap.size,1,none⟩)) (by kernel_rfl) rfl rfl (fun _ _ _ h=>h) rfl (y_field rfl rfl (run_field73_1 _)) hS ?_
  simp only[ap]
  refine hpu 1 (.func (.func 117) #[.pointer (some ⟨b,0,none⟩)] #[]) (by kernel_rfl) rfl rfl (fun _ _ _ h=>h) rfl (y_load rfl rfl (fun w' q=>run_load71 ((q.1.cell 1).trans rfl))) hS ?_
  simp only[ap]
  refine hpu 2 (.pointer (some ⟨w.heap.size,0,none⟩)) (by kernel_rfl) rfl rfl (fun _ _ _ h=>h) rfl (y_field rfl rfl (run_field73_0 _)) hS ?_
  simp only[ap]
  refine hpu 3 (.slice (some ⟨bA,off,none⟩) n c) (by kernel_rfl) rfl rfl (fun _ _ _ h=>h) rfl (y_load rfl rfl (fun w' q=>run_load23o ((q.1.cell 0).trans rfl))) hS ?_
  simp only[ap]
  refine hpu 4 (.pointer (some ⟨w.heap.size+1,4,none⟩)) (by kernel_rfl) rfl rfl (fun _ _ _ h=>h) rfl (y_field rfl rfl (run_field37_4 _)) hS ?_
  simp only[ap]
  refine hpu 5 (.slice (some ⟨bk,ok,none⟩) m ck) (by kernel_rfl) rfl rfl (fun _ _ _ h=>h) rfl (y_load rfl rfl (fun w' q=>run_load35x ((q.2.1.cell 4).trans rfl))) hS ?_
  simp only[ap]
  refine hpu 6 (.pointer (some ⟨bk,ok+0,none⟩)) (by kernel_rfl) rfl rfl (fun _ _ _ h=>h) rfl (y_index rfl rfl rfl (fun w=>run_index35 bk ok m ck 0 hm0 w)) hS ?_
  simp only[ap]
  refine hpu 7 (.int .i64 (k:Int)) (by kernel_rfl) rfl rfl (fun _ _ _ h=>h) rfl (y_load rfl rfl (fun w' q=>run_load3 q.2.2.1)) hS ?_
  simp only[ap]
  refine hpu 8 (.pointer (some ⟨bA,off+k*5,none⟩)) (by kernel_rfl) rfl rfl (fun _ _ _ h=>h) rfl (y_index rfl rfl rfl (fun w=>run_index23 bA off n c k hkn w)) hS ?_
  simp only[ap]
  refine hpu 9 (.pointer (some ⟨bA,off+k*5+3,none⟩)) (by kernel_rfl) rfl rfl (fun _ _ _ h=>h) rfl (y_field rfl rfl (run_field37_3o _ _)) hS ?_
  simp only[ap]
  refine hpu 10 (.string tx2) (by kernel_rfl) rfl rfl (fun _ _ _ h=>h) rfl (y_load rfl rfl (fun w' q=>run_load9 q.2.2.2)) hS ?_
  simp only[ap]
  have hS3:SQ w.heap.size (w.heap.size+1) [.slice (some ⟨bA,off,none⟩) n c,.func (.func 117) #[.pointer (some ⟨b,0,none⟩)] #[],.int .i64 d] [.int .i64 kd,.int .i64 nn,.int .i64 pl,.string tx,.slice (some ⟨bk,ok,none⟩) m ck] bk ok (k:Int) bA (off+k*5+3) tx2 (W5.alloc (.cells #[.string ⟨#[99,97,108,108,32]⟩,.string tx2] 9)):=hS.kp ((Kp.refl w0.heap.size b W5).alloc hP5.bw _) (by omega) (by omega) hbk hbA
  refine h_one 11 ({ dst:=some 24,op:=Op.buildSlice 40 2 #[(0,Operand.const (Value.string { data := #[99,97,108,108,32] })),(1,Operand.tmp 23)],type:=40,pos := "printer.go:167",after := #[{ on:=10,ground:=Ground.data }],guard:=none }:Oper) rfl (by kernel_rfl) rfl (slice402 rfl rfl rfl ⟨hS3,?_⟩)
  simp only[ap]
  refine h_callv 12 ({ dst:=some 25,op:=Op.call { callee:=Callee.value (Operand.tmp 14),args := #[Operand.tmp 24],argTypes := #[40] },type:=0,pos := "printer.go:167",after := #[{ on:=1,ground:=Ground.data },{ on:=11,ground:=Ground.data }],guard:=none }:Oper) (pre := #[.pointer (some ⟨b,0,none⟩)]) (args := #[.slice (some ⟨W5.heap.size,0,none⟩) 2 2]) own117x rfl rfl (by kernel_rfl) rfl rfl rfl (write_new w0.heap.size b (t++([tx.data.toList,[32,61,32]]:List (List UInt8)).flatten) [[99,97,108,108,32],tx2.data.toList] W5 hP5 (by have:=HL.out;simp only[List.length_append,List.length_cons,List.length_nil,List.flatten_cons,List.flatten_nil]at this ⊢;omega) (by simp) 2 rfl _ (by simp[bsX_of];rfl) _ rfl) ?_
  rintro e w3 ⟨rfl,hp3,hk3⟩
  have hS4:=hS.kp hk3 (by omega) (by omega) hbk hbA
  refine .inr ⟨_,rfl,hS4,?_⟩
  simp only[ap]
  refine wpAnyH_done (by kernel_rfl) ?_ _
  have HP3:=Lib.hid hp3
  have HW3:=Lib.hid (hw5.trans hk3)
  have HS3:=Lib.hid hS4
  clear hS hS3 hS4 hP5 hw5 hk3 hp3 hkd
  go_upto_region 4 with(fail)
  obtain⟨W6,hW6⟩:∃W6:World,{ w3 with drawn:=w3.drawn+1 }=W6:=⟨_,rfl⟩
  have hkd:Kp w0.heap.size b w3 W6:=by rw[← hW6];exact⟨Below.drew (Below.refl _ _),(Lib.OthersKept.refl _ _ w3).drew⟩
  have hS:=HS3.out.kp hkd (by omega) (by omega) hbk hbA
  have hP5:Pg w0.heap.size b ((t++([tx.data.toList,[32,61,32]]:List (List UInt8)).flatten)++([[99,97,108,108,32],tx2.data.toList]:List (List UInt8)).flatten) W6:=by rw[← hW6];exact HP3.out
  have hw5:=HW3.out.trans hkd
  refine wp_region_held (S:=SQ w.heap.size (w.heap.size+1) [.slice (some ⟨bA,off,none⟩) n c,.func (.func 117) #[.pointer (some ⟨b,0,none⟩)] #[],.int .i64 d] [.int .i64 kd,.int .i64 nn,.int .i64 pl,.string tx,.slice (some ⟨bk,ok,none⟩) m ck] bk ok (k:Int) bA (off+k*5+3) tx2) (by kernel_rfl) ?_
  rw[hW6]
  clear hW6
  refine hpu 0 (.agg #[.slice (some ⟨bA,off,none⟩) n c,.func (.func 117) #[.pointer (some ⟨b,0,none⟩)] #[],.int .i64 d]) (by kernel_rfl) rfl rfl (fun _ _ _ h=>h) rfl (y_load rfl rfl (fun w' q=>run_load73 ((q.1.cell 0).trans rfl) ((q.1.cell 1).trans rfl) ((q.1.cell 2).trans rfl))) hS ?_
  simp only[ap]
  refine hpu 1 (.pointer (some ⟨w.heap.size+1,4,none⟩)) (by kernel_rfl) rfl rfl (fun _ _ _ h=>h) rfl (y_field rfl rfl (run_field37_4 _)) hS ?_
  simp only[ap]
  refine hpu 2 (.slice (some ⟨bk,ok,none⟩) m ck) (by kernel_rfl) rfl rfl (fun _ _ _ h=>h) rfl (y_load rfl rfl (fun w' q=>run_load35x ((q.2.1.cell 4).trans rfl))) hS ?_
  simp only[ap]
  refine hpu 3 (.slice (some ⟨bk,if ck=1 then ok else ok+1,none⟩) (m-1) (ck-1)) (by kernel_rfl) rfl rfl (fun _ _ _ h=>h) rfl (y_slice1 rfl rfl (fun w=>run_slice35 bk ok m ck (by omega) w)) hS ?_
  simp only[ap]
  refine hpu 4 (.agg #[.slice (some ⟨bA,off,none⟩) n c,.func (.func 117) #[.pointer (some ⟨b,0,none⟩)] #[],.int .i64 d]) (by kernel_rfl) rfl rfl (fun _ _ _ h=>h) rfl (y_load rfl rfl (fun w' q=>run_load73 ((q.1.cell 0).trans rfl) ((q.1.cell 1).trans rfl) ((q.1.cell 2).trans rfl))) hS ?_
  simp only[ap]
  refine hpu 5 (.func (.func 66) #[.agg #[.slice (some ⟨bA,off,none⟩) n c,.func (.func 117) #[.pointer (some ⟨b,0,none⟩)] #[],.int .i64 d]] #[]) (by kernel_rfl) rfl rfl (fun _ _ _ h=>h) rfl (y_bound rfl rfl) hS ?_
  simp only[ap]
  refine h_callx 6 ({ dst:=some 32,op:=Op.call { callee:=Callee.value (Operand.func 192),args := #[Operand.tmp 26,Operand.tmp 29,Operand.tmp 31],argTypes := #[73,35,70] },type:=0,pos := "printer.go:168",after := #[{ on:=0,ground:=Ground.data },{ on:=3,ground:=Ground.data },{ on:=5,ground:=Ground.data }],guard:=none }:Oper) (args := #[.agg #[.slice (some ⟨bA,off,none⟩) n c,.func (.func 117) #[.pointer (some ⟨b,0,none⟩)] #[],.int .i64 d],(.slice (some ⟨bk,if ck=1 then ok else ok+1,none⟩) (m-1) (ck-1)),.func (.func 66) #[.agg #[.slice (some ⟨bA,off,none⟩) n c,.func (.func 117) #[.pointer (some ⟨b,0,none⟩)] #[],.int .i64 d]] #[]]) own192x rfl rfl (by kernel_rfl) rfl rfl (HT.out _ _ (Kp.w0 HB.out hw5) hP5 (by have:=HL.out;simp only[List.length_append,List.length_cons,List.length_nil,List.flatten_cons,List.flatten_nil]at this ⊢;omega)) ?_
  rintro e w4 ⟨rfl,hp2,hk2⟩
  have hS2:=hS.kp hk2 (by omega) (by omega) hbk hbA
  refine .inr ⟨_,rfl,hS2,?_⟩
  simp only[ap]
  refine wpAnyH_done (by kernel_rfl) ?_ _
  have HP4:=Lib.hid hp2
  have HW4:=Lib.hid (hw5.trans hk2)
  clear hS hP5 hw5 hkd HS3 HP3 HW3 hp2 hk2 hS2
  go_end0
  exact⟨rfl,by simpa using HP4.out,HW4.out⟩
end
end Go.Proofs.YteecfjhjllajlaaGreatDoor
