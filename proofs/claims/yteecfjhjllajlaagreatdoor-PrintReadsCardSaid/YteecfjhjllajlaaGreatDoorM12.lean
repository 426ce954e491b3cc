/- PROVED: Xp Xq Xr Xs. No more condition. -/
import Derived.Test.YteecfjhjllajlaaGreatDoorM11
import Derived.Laws.EntriesVeiled
set_option maxHeartbeats 4000000
set_option maxRecDepth 100000
namespace Go.Proofs.YteecfjhjllajlaaGreatDoor
open Go.Lib (hid)
open Go Go.RowKit
section
open Tr (Bx aa bt eH Ints)
theorem CO:Own 192:=⟨_,Tryz.func192,by kernel_rfl,by kernel_rfl⟩
theorem tJ (b off n c:Nat)(h1:1<=n)(w:World):(Instr.sliceAt 35 (.slice (some ⟨b,off,none⟩) n c) (some (.int .i64 1)) none none).run Tryz.prog w=.ok (.slice (some ⟨b,if c=1 then off else off+1,none⟩) (n-1) (c-1)) w:=by
 have h:(1:Int)<=(n:Int):=by omega
 simp[go_sem,Tryz.underlying35,h];split<;>rfl
section
variable {a:Act} {o:Oper} {S:World->Prop}
theorem zA {x:Operand}{u r:Value}(ho:o.op=.slice 35 x (some (.const (.int .i64 1))) none none)(hx:a.eval x=u)(hr:∀w,(Instr.sliceAt 35 u (some (.int .i64 1)) none none).run Tryz.prog w=.ok r w):∀w,S w->(execOp a.eval o).run Tryz.prog w=.ok (.value r) w:=λw _=>by
 have hc:a.eval (.const (.int .i64 1))=.int .i64 1:=rfl;unfold execOp;simp only[ho,hx,hc,Option.map_some,Option.map_none,Sem.run_bind,hr w,Sem.run_pure,Result.andThen_ok]
theorem CP {x:Operand}{u:Value}(ho:o.op=.makeFunc (.func 66) #[x] #[])(hx:a.eval x=u):∀w,S w->(execOp a.eval o).run Tryz.prog w=.ok (.value (.func (.func 66) #[u] #[])) w:=λw _=>by
 unfold execOp;simp only[ho,List.map_toArray,List.map_cons,List.map_nil,hx];rfl
end
section
variable {ops:Array Oper} {Q:Exit->Act->World->Prop} {a:Act} {w:World} {o:Oper}
theorem uQ {K:Act->World->Prop}{x y:Operand}{s u:ByteArray}(ho:o.op=.buildSlice 40 2 #[(0,x),(1,y)])(hx:a.eval x=.string s)(hy:a.eval y=.string u)
  (h:K (a.put o.dst (.slice (some ⟨w.heap.size,0,none⟩) 2 2)) (w.alloc (.cells #[.string s,.string u] 9))):o.wp Tryz.prog a w K Q:=by
 unfold Oper.wp execOp;simp only[ho,List.map_toArray,List.map_cons,List.map_nil,hx,hy];simp[go_sem];exact h
end
def Ei (l:List Tr.Nd)(f:Nat)(tx:List UInt8)(k:Int)(ks:List Int):List UInt8:=(if tx=[] then [] else tx++[32,61,32])++[99,97,108,108,32]++bu l k++nP (ks.map (bE l f))
theorem Ko {w0:World}{A:Option Addr}{l:List Tr.Nd}{n c b f:Nat}(hx:nR w0 A l n)(hr:lH w0 A l n c b f)(d kd nn pl:Int)(tx:ByteArray)(bk ok m ck k:Nat)(ks:List Int)(t:List UInt8)(w:World)(hkn:k<n)(hm:m=ks.length+1)(hm2:m<=100000)(hcap:2<=m->ck≠1)(hbk:bk<w0.heap.size)
  (hcs:∀i (hi:i<((k:Int) :: ks).length),w0.cell? ⟨bk,ok+i,none⟩=some (.int .i64 (((k:Int) :: ks)[i]))) (hks:∀x ∈ ks,∃x2:Nat,x=(x2:Int)/\x2<f/\x2<n/\Tr.aI (ag l x2).kd=true) (hb:Below w0.heap.size w0 w) (h:Pg w0.heap.size b t w)
  (hl:t.length+(Ei l f tx.data.toList k ks).length<=140737488355328):Calls Tryz.prog 133 #[PV A n c b d,.agg #[.int .i64 kd,.int .i64 nn,.int .i64 pl,.string tx,.slice (some ⟨bk,ok,none⟩) m ck]] w (aK w0.heap.size b (t++Ei l f tx.data.toList k ks) (.tuple #[]) w):=by
 have hkl:k<l.length:=by rw[<- hx.len];exact hkn
 obtain⟨bA,off,rfl,hbA,hcA⟩:=hx.nds (by omega);obtain⟨K2,c2',y0,y1,y2,y3,y4,y5⟩:=hcA k hkl;have ctx:=(hb.cell (p:=⟨bA,off+k*5+3,none⟩) hbA).trans y3;rw[<- aS hkl]at ctx;have hsz:=hb.size;have hckw:=(hb.cell (p:=⟨bk,ok,none⟩) hbk).trans (hcs 0 (by simp));have hm0:0<m:=by omega
 have HT:=hid (λt' w' (q:Below w0.heap.size w0 w') (h':Pg w0.heap.size b t' w') (hl':t'.length+(nP (ks.map (bE l f))).length<=140737488355328)=>Eg (B:=w0.heap.size) (some ⟨bA,off,none⟩) n c b d d (some ⟨bk,if ck=1 then ok else ok+1,none⟩) (m-1) (ck-1) ks (bE l f) t' w' h' (by omega) (by omega) (λw2 q2 h0=>by
  have hne:ck≠1:=hcap (by omega)
  rw[if_neg hne]
  exact⟨bk,ok+1,rfl,Nat.lt_of_lt_of_le hbk (by have:=q.size;have:=q2.1.size;omega),λi hi=>((q.trans q2.1).cell (p:=⟨bk,ok+1+i,none⟩) hbk).trans (by have:=hcs (i+1) (by simpa using hi);rw[show ok+1+i=ok+(i+1)by omega];simpa using this)⟩) (λx hx' t2 w2 q2 h2 hl2=>by
  obtain⟨x2,rfl,hxf,hxn,hxe⟩:=hks x hx'
  exact hr x2 d t2 w2 hxf hxn hxe (q.trans q2.1) h2 hl2) hl')
 unfold Ei bu at hl |-;have H:=hid h;have HB:=hid hb;have hbw:=h.bw;have hbl:=h.lt;unfold PV at HT;unfold PV;generalize nP (ks.map (bE l f))=y at *
 generalize (ag l k).tx=nE at *
 have HX:=hid (show SQ w.heap.size (w.heap.size+1) [.slice (some ⟨bA,off,none⟩) n c,.func (.func 117) #[.pointer (some ⟨b,0,none⟩)] #[],.int .i64 d] [.int .i64 kd,.int .i64 nn,.int .i64 pl,.string tx,.slice (some ⟨bk,ok,none⟩) m ck] bk ok (k:Int) bA (off+k*5+3) nE ((w.alloc (.cells #[.slice (some ⟨bA,off,none⟩) n c,.func (.func 117) #[.pointer (some ⟨b,0,none⟩)] #[],.int .i64 d] 73)).alloc (.cells #[.int .i64 kd,.int .i64 nn,.int .i64 pl,.string tx,.slice (some ⟨bk,ok,none⟩) m ck] 37)) by
  have b1:=jK w [.slice (some ⟨bA,off,none⟩) n c,.func (.func 117) #[.pointer (some ⟨b,0,none⟩)] #[],.int .i64 d] [.int .i64 kd,.int .i64 nn,.int .i64 pl,.string tx,.slice (some ⟨bk,ok,none⟩) m ck]
  have hb2:Below w.heap.size w ((w.alloc (.cells #[.slice (some ⟨bA,off,none⟩) n c,.func (.func 117) #[.pointer (some ⟨b,0,none⟩)] #[],.int .i64 d] 73)).alloc (.cells #[.int .i64 kd,.int .i64 nn,.int .i64 pl,.string tx,.slice (some ⟨bk,ok,none⟩) m ck] 37)):=((Below.refl _ _).alloc (Nat.le_refl _) _).alloc (by rw[World.size_alloc];omega) _
  exact⟨b1.1,b1.2,(hb2.cell (p:=⟨bk,ok,none⟩) (by show bk<w.heap.size;omega)).trans hckw,(hb2.cell (p:=⟨bA,off+k*5+3,none⟩) (by show bA<w.heap.size;omega)).trans ctx⟩)
 have HW:=hid (((Kp.refl w0.heap.size b w).alloc hbw (.cells #[.slice (some ⟨bA,off,none⟩) n c,.func (.func 117) #[.pointer (some ⟨b,0,none⟩)] #[],.int .i64 d] 73)).alloc (by rw[World.size_alloc];omega) (.cells #[.int .i64 kd,.int .i64 nn,.int .i64 pl,.string tx,.slice (some ⟨bk,ok,none⟩) m ck] 37));have HP:=hid ((H.out.alloc (.cells #[.slice (some ⟨bA,off,none⟩) n c,.func (.func 117) #[.pointer (some ⟨b,0,none⟩)] #[],.int .i64 d] 73)).alloc (.cells #[.int .i64 kd,.int .i64 nn,.int .i64 pl,.string tx,.slice (some ⟨bk,ok,none⟩) m ck] 37));clear hm hx hr hks hcs hcap y0 y1 y2 y3 y4 y5 hcA ctx hckw hb h hkl;by_cases hz:tx.data.toList=[]
 ·rw[if_pos hz]at hl |-;have HL:=hid hl;have q1:(tx.toList==[])=true:=by rw[ByteArray.toList_eq];exact beq_iff_eq.2 hz
  have q2:tx.toList=[]:=by rw[ByteArray.toList_eq];exact hz
  clear hz hl;go_enter Tryz.func133,Tryz.ntmps133
  go_upto_region 3 with(fail)
  obtain⟨W4,hW4⟩:∃W4:World,((w.alloc (.cells #[.slice (some ⟨bA,off,none⟩) n c,.func (.func 117) #[.pointer (some ⟨b,0,none⟩)] #[],.int .i64 d] 73)).alloc (.cells #[.int .i64 kd,.int .i64 nn,.int .i64 pl,.string tx,.slice (some ⟨bk,ok,none⟩) m ck] 37))=W4:=⟨_,rfl⟩;rw[hW4]at HX HW HP |-;clear hW4;obtain⟨W5,hW5⟩:∃W5:World,{W4 with drawn:=W4.drawn+1}=W5:=⟨_,rfl⟩;have hkd:Kp w0.heap.size b W4 W5:=by rw[<- hW5];exact⟨Below.drew (Below.refl _ _),(Lib.OthersKept.refl _ _ W4).drew⟩
  have hS:=HX.out.kp hkd (by omega) (by omega) hbk hbA;have hP5:Pg w0.heap.size b t W5:=by rw[<- hW5];exact HP.out
  have hw5:=HW.out.trans hkd;refine wp_region_held (S:=SQ w.heap.size (w.heap.size+1) [.slice (some ⟨bA,off,none⟩) n c,.func (.func 117) #[.pointer (some ⟨b,0,none⟩)] #[],.int .i64 d] [.int .i64 kd,.int .i64 nn,.int .i64 pl,.string tx,.slice (some ⟨bk,ok,none⟩) m ck] bk ok (k:Int) bA (off+k*5+3) nE) (by kernel_rfl) ?_;rw[hW5];clear hW5;refine aG 0 (.pointer (some ⟨w.heap.size,1,none⟩)) (by kernel_rfl) rfl rfl (λ_ _ _ h=>h) rfl (ay rfl rfl (cZ _)) hS ?_;simp only[ap];refine aG 1 (.func (.func 117) #[.pointer (some ⟨b,0,none⟩)] #[]) (by kernel_rfl) rfl rfl (λ_ _ _ h=>h) rfl (ak rfl rfl (λw' q=>fF ((q.1.cell 1).trans rfl))) hS ?_;simp only[ap];refine aG 2 (.pointer (some ⟨w.heap.size,0,none⟩)) (by kernel_rfl) rfl rfl (λ_ _ _ h=>h) rfl (ay rfl rfl (gm _)) hS ?_;simp only[ap];refine aG 3 (.slice (some ⟨bA,off,none⟩) n c) (by kernel_rfl) rfl rfl (λ_ _ _ h=>h) rfl (ak rfl rfl (λw' q=>iZ ((q.1.cell 0).trans rfl))) hS ?_;simp only[ap];refine aG 4 (.pointer (some ⟨w.heap.size+1,4,none⟩)) (by kernel_rfl) rfl rfl (λ_ _ _ h=>h) rfl (ay rfl rfl (aD _)) hS ?_;simp only[ap];refine aG 5 (.slice (some ⟨bk,ok,none⟩) m ck) (by kernel_rfl) rfl rfl (λ_ _ _ h=>h) rfl (ak rfl rfl (λw' q=>aH ((q.2.1.cell 4).trans rfl))) hS ?_;simp only[ap]
  refine aG 6 (.pointer (some ⟨bk,ok+0,none⟩)) (by kernel_rfl) rfl rfl (λ_ _ _ h=>h) rfl (bq rfl rfl rfl (λw=>aN bk ok m ck 0 hm0 w)) hS ?_;simp only[ap];refine aG 7 (.int .i64 (k:Int)) (by kernel_rfl) rfl rfl (λ_ _ _ h=>h) rfl (ak rfl rfl (λw' q=>aB q.2.2.1)) hS ?_;simp only[ap];refine aG 8 (.pointer (some ⟨bA,off+k*5,none⟩)) (by kernel_rfl) rfl rfl (λ_ _ _ h=>h) rfl (bq rfl rfl rfl (λw=>ja bA off n c k hkn w)) hS ?_;simp only[ap];refine aG 9 (.pointer (some ⟨bA,off+k*5+3,none⟩)) (by kernel_rfl) rfl rfl (λ_ _ _ h=>h) rfl (ay rfl rfl (jq _ _)) hS ?_;simp only[ap];refine aG 10 (.string nE) (by kernel_rfl) rfl rfl (λ_ _ _ h=>h) rfl (ak rfl rfl (λw' q=>dV q.2.2.2)) hS ?_;simp only[ap];have hS3:SQ w.heap.size (w.heap.size+1) [.slice (some ⟨bA,off,none⟩) n c,.func (.func 117) #[.pointer (some ⟨b,0,none⟩)] #[],.int .i64 d] [.int .i64 kd,.int .i64 nn,.int .i64 pl,.string tx,.slice (some ⟨bk,ok,none⟩) m ck] bk ok (k:Int) bA (off+k*5+3) nE (W5.alloc (.cells #[.string ⟨#[99,97,108,108,32]⟩,.string nE] 9)):=hS.kp ((Kp.refl w0.heap.size b W5).alloc hP5.bw _) (by omega) (by omega) hbk hbA;refine dQ 11 ({dst:=some 24,op:=Op.buildSlice 40 2 #[(0,Operand.const (Value.string {data := #[99,97,108,108,32]})),(1,Operand.tmp 23)],type:=40,pos := "printer.go:167",after := #[{on:=10,ground:=Ground.data}],guard:=none}:Oper) rfl (by kernel_rfl) rfl (uQ rfl rfl rfl ⟨hS3,?_⟩);simp only[ap]
  refine kE 12 ({dst:=some 25,op:=Op.call {callee:=Callee.value (Operand.tmp 14),args := #[Operand.tmp 24],argTypes := #[40]},type:=0,pos := "printer.go:167",after := #[{on:=1,ground:=Ground.data},{on:=11,ground:=Ground.data}],guard:=none}:Oper) (pre := #[.pointer (some ⟨b,0,none⟩)]) (args := #[.slice (some ⟨W5.heap.size,0,none⟩) 2 2]) kD rfl rfl (by kernel_rfl) rfl rfl rfl (aC w0.heap.size b t [[99,97,108,108,32],nE.data.toList] W5 hP5 (by have:=HL.out;simp only[List.length_append,List.length_cons,List.length_nil,List.flatten_cons,List.flatten_nil]at this |-;omega) (by simp) 2 rfl _ (by simp[iq];rfl) _ rfl) ?_;rintro e w3 ⟨rfl,hp3,hk3⟩;have hS4:=hS.kp hk3 (by omega) (by omega) hbk hbA;refine .inr ⟨_,rfl,hS4,?_⟩;simp only[ap];refine wpAnyH_done (by kernel_rfl) ?_ _;have HP3:=hid hp3;have HW3:=hid (hw5.trans hk3);have HS3:=hid hS4;clear hS hS3 hS4 hP5 hw5 hk3 hp3 hkd
  go_upto_region 4 with(fail)
  obtain⟨W6,hW6⟩:∃W6:World,{w3 with drawn:=w3.drawn+1}=W6:=⟨_,rfl⟩;have hkd:Kp w0.heap.size b w3 W6:=by rw[<- hW6];exact⟨Below.drew (Below.refl _ _),(Lib.OthersKept.refl _ _ w3).drew⟩
  have hS:=HS3.out.kp hkd (by omega) (by omega) hbk hbA;have hP5:Pg w0.heap.size b (t++([[99,97,108,108,32],nE.data.toList]:List (List UInt8)).flatten) W6:=by rw[<- hW6];exact HP3.out
  have hw5:=HW3.out.trans hkd;refine wp_region_held (S:=SQ w.heap.size (w.heap.size+1) [.slice (some ⟨bA,off,none⟩) n c,.func (.func 117) #[.pointer (some ⟨b,0,none⟩)] #[],.int .i64 d] [.int .i64 kd,.int .i64 nn,.int .i64 pl,.string tx,.slice (some ⟨bk,ok,none⟩) m ck] bk ok (k:Int) bA (off+k*5+3) nE) (by kernel_rfl) ?_;rw[hW6];clear hW6;refine aG 0 (.agg #[.slice (some ⟨bA,off,none⟩) n c,.func (.func 117) #[.pointer (some ⟨b,0,none⟩)] #[],.int .i64 d]) (by kernel_rfl) rfl rfl (λ_ _ _ h=>h) rfl (ak rfl rfl (λw' q=>aV ((q.1.cell 0).trans rfl) ((q.1.cell 1).trans rfl) ((q.1.cell 2).trans rfl))) hS ?_;simp only[ap];refine aG 1 (.pointer (some ⟨w.heap.size+1,4,none⟩)) (by kernel_rfl) rfl rfl (λ_ _ _ h=>h) rfl (ay rfl rfl (aD _)) hS ?_;simp only[ap];refine aG 2 (.slice (some ⟨bk,ok,none⟩) m ck) (by kernel_rfl) rfl rfl (λ_ _ _ h=>h) rfl (ak rfl rfl (λw' q=>aH ((q.2.1.cell 4).trans rfl))) hS ?_;simp only[ap];refine aG 3 (.slice (some ⟨bk,if ck=1 then ok else ok+1,none⟩) (m-1) (ck-1)) (by kernel_rfl) rfl rfl (λ_ _ _ h=>h) rfl (zA rfl rfl (λw=>tJ bk ok m ck (by omega) w)) hS ?_;simp only[ap];refine aG 4 (.agg #[.slice (some ⟨bA,off,none⟩) n c,.func (.func 117) #[.pointer (some ⟨b,0,none⟩)] #[],.int .i64 d]) (by kernel_rfl) rfl rfl (λ_ _ _ h=>h) rfl (ak rfl rfl (λw' q=>aV ((q.1.cell 0).trans rfl) ((q.1.cell 1).trans rfl) ((q.1.cell 2).trans rfl))) hS ?_;simp only[ap]
  refine aG 5 (.func (.func 66) #[.agg #[.slice (some ⟨bA,off,none⟩) n c,.func (.func 117) #[.pointer (some ⟨b,0,none⟩)] #[],.int .i64 d]] #[]) (by kernel_rfl) rfl rfl (λ_ _ _ h=>h) rfl (CP rfl rfl) hS ?_;simp only[ap];refine aQ 6 ({dst:=some 32,op:=Op.call {callee:=Callee.value (Operand.func 192),args := #[Operand.tmp 26,Operand.tmp 29,Operand.tmp 31],argTypes := #[73,35,70]},type:=0,pos := "printer.go:168",after := #[{on:=0,ground:=Ground.data},{on:=3,ground:=Ground.data},{on:=5,ground:=Ground.data}],guard:=none}:Oper) (args := #[.agg #[.slice (some ⟨bA,off,none⟩) n c,.func (.func 117) #[.pointer (some ⟨b,0,none⟩)] #[],.int .i64 d],(.slice (some ⟨bk,if ck=1 then ok else ok+1,none⟩) (m-1) (ck-1)),.func (.func 66) #[.agg #[.slice (some ⟨bA,off,none⟩) n c,.func (.func 117) #[.pointer (some ⟨b,0,none⟩)] #[],.int .i64 d]] #[]]) CO rfl rfl (by kernel_rfl) rfl rfl (HT.out _ _ (Kp.w0 HB.out hw5) hP5 (by have:=HL.out;simp only[List.length_append,List.length_cons,List.length_nil,List.flatten_cons,List.flatten_nil]at this |-;omega)) ?_;rintro e w4 ⟨rfl,hp2,hk2⟩;have hS2:=hS.kp hk2 (by omega) (by omega) hbk hbA;refine .inr ⟨_,rfl,hS2,?_⟩;simp only[ap];refine wpAnyH_done (by kernel_rfl) ?_ _;have HP4:=hid hp2;have HW4:=hid (hw5.trans hk2);clear hS hP5 hw5 hkd HS3 HP3 HW3 hp2 hk2 hS2
  go_end0
  exact⟨rfl,by simpa using HP4.out,HW4.out⟩
 ·rw[if_neg hz]at hl |-;have HL:=hid hl;have q1:(tx.toList==[])=false:=by rw[ByteArray.toList_eq];exact beq_eq_false_iff_ne.2 hz
  have q2:¬tx.toList=[]:=by rw[ByteArray.toList_eq];exact hz
  clear hz hl;go_enter Tryz.func133,Tryz.ntmps133
  go_wp2_with (go_at_call 117;refine(aC w0.heap.size b t [tx.data.toList,[32,61,32]] _ HP.out (by have:=HL.out;simp only[List.length_append,List.length_cons,List.length_nil,List.flatten_cons,List.flatten_nil]at this |-;omega) (by simp) 2 rfl _ (by simp[iq];rfl) _ (by simp[World.size_alloc])).mono ?_);rintro e w1 ⟨rfl,hp1,hk1⟩;have HS2:=hid (HX.out.kp hk1 (by omega) (by omega) hbk hbA);have HP2:=hid hp1;have HW2:=hid (HW.out.trans hk1);clear HX HW HP hp1 hk1
  go_upto_region 3 with(fail)
  obtain⟨W5,hW5⟩:∃W5:World,{w1 with drawn:=w1.drawn+1}=W5:=⟨_,rfl⟩;have hkd:Kp w0.heap.size b w1 W5:=by rw[<- hW5];exact⟨Below.drew (Below.refl _ _),(Lib.OthersKept.refl _ _ w1).drew⟩
  have hS:=HS2.out.kp hkd (by omega) (by omega) hbk hbA;have hP5:Pg w0.heap.size b (t++([tx.data.toList,[32,61,32]]:List (List UInt8)).flatten) W5:=by rw[<- hW5];exact HP2.out
  have hw5:=HW2.out.trans hkd;refine wp_region_held (S:=SQ w.heap.size (w.heap.size+1) [.slice (some ⟨bA,off,none⟩) n c,.func (.func 117) #[.pointer (some ⟨b,0,none⟩)] #[],.int .i64 d] [.int .i64 kd,.int .i64 nn,.int .i64 pl,.string tx,.slice (some ⟨bk,ok,none⟩) m ck] bk ok (k:Int) bA (off+k*5+3) nE) (by kernel_rfl) ?_;rw[hW5];clear hW5;refine aG 0 (.pointer (some ⟨w.heap.size,1,none⟩)) (by kernel_rfl) rfl rfl (λ_ _ _ h=>h) rfl (ay rfl rfl (cZ _)) hS ?_;simp only[ap];refine aG 1 (.func (.func 117) #[.pointer (some ⟨b,0,none⟩)] #[]) (by kernel_rfl) rfl rfl (λ_ _ _ h=>h) rfl (ak rfl rfl (λw' q=>fF ((q.1.cell 1).trans rfl))) hS ?_;simp only[ap];refine aG 2 (.pointer (some ⟨w.heap.size,0,none⟩)) (by kernel_rfl) rfl rfl (λ_ _ _ h=>h) rfl (ay rfl rfl (gm _)) hS ?_;simp only[ap];refine aG 3 (.slice (some ⟨bA,off,none⟩) n c) (by kernel_rfl) rfl rfl (λ_ _ _ h=>h) rfl (ak rfl rfl (λw' q=>iZ ((q.1.cell 0).trans rfl))) hS ?_;simp only[ap];refine aG 4 (.pointer (some ⟨w.heap.size+1,4,none⟩)) (by kernel_rfl) rfl rfl (λ_ _ _ h=>h) rfl (ay rfl rfl (aD _)) hS ?_;simp only[ap];refine aG 5 (.slice (some ⟨bk,ok,none⟩) m ck) (by kernel_rfl) rfl rfl (λ_ _ _ h=>h) rfl (ak rfl rfl (λw' q=>aH ((q.2.1.cell 4).trans rfl))) hS ?_;simp only[ap]
  refine aG 6 (.pointer (some ⟨bk,ok+0,none⟩)) (by kernel_rfl) rfl rfl (λ_ _ _ h=>h) rfl (bq rfl rfl rfl (λw=>aN bk ok m ck 0 hm0 w)) hS ?_;simp only[ap];refine aG 7 (.int .i64 (k:Int)) (by kernel_rfl) rfl rfl (λ_ _ _ h=>h) rfl (ak rfl rfl (λw' q=>aB q.2.2.1)) hS ?_;simp only[ap];refine aG 8 (.pointer (some ⟨bA,off+k*5,none⟩)) (by kernel_rfl) rfl rfl (λ_ _ _ h=>h) rfl (bq rfl rfl rfl (λw=>ja bA off n c k hkn w)) hS ?_;simp only[ap];refine aG 9 (.pointer (some ⟨bA,off+k*5+3,none⟩)) (by kernel_rfl) rfl rfl (λ_ _ _ h=>h) rfl (ay rfl rfl (jq _ _)) hS ?_;simp only[ap];refine aG 10 (.string nE) (by kernel_rfl) rfl rfl (λ_ _ _ h=>h) rfl (ak rfl rfl (λw' q=>dV q.2.2.2)) hS ?_;simp only[ap];have hS3:SQ w.heap.size (w.heap.size+1) [.slice (some ⟨bA,off,none⟩) n c,.func (.func 117) #[.pointer (some ⟨b,0,none⟩)] #[],.int .i64 d] [.int .i64 kd,.int .i64 nn,.int .i64 pl,.string tx,.slice (some ⟨bk,ok,none⟩) m ck] bk ok (k:Int) bA (off+k*5+3) nE (W5.alloc (.cells #[.string ⟨#[99,97,108,108,32]⟩,.string nE] 9)):=hS.kp ((Kp.refl w0.heap.size b W5).alloc hP5.bw _) (by omega) (by omega) hbk hbA;refine dQ 11 ({dst:=some 24,op:=Op.buildSlice 40 2 #[(0,Operand.const (Value.string {data := #[99,97,108,108,32]})),(1,Operand.tmp 23)],type:=40,pos := "printer.go:167",after := #[{on:=10,ground:=Ground.data}],guard:=none}:Oper) rfl (by kernel_rfl) rfl (uQ rfl rfl rfl ⟨hS3,?_⟩);simp only[ap]
  refine kE 12 ({dst:=some 25,op:=Op.call {callee:=Callee.value (Operand.tmp 14),args := #[Operand.tmp 24],argTypes := #[40]},type:=0,pos := "printer.go:167",after := #[{on:=1,ground:=Ground.data},{on:=11,ground:=Ground.data}],guard:=none}:Oper) (pre := #[.pointer (some ⟨b,0,none⟩)]) (args := #[.slice (some ⟨W5.heap.size,0,none⟩) 2 2]) kD rfl rfl (by kernel_rfl) rfl rfl rfl (aC w0.heap.size b (t++([tx.data.toList,[32,61,32]]:List (List UInt8)).flatten) [[99,97,108,108,32],nE.data.toList] W5 hP5 (by have:=HL.out;simp only[List.length_append,List.length_cons,List.length_nil,List.flatten_cons,List.flatten_nil]at this |-;omega) (by simp) 2 rfl _ (by simp[iq];rfl) _ rfl) ?_;rintro e w3 ⟨rfl,hp3,hk3⟩;have hS4:=hS.kp hk3 (by omega) (by omega) hbk hbA;refine .inr ⟨_,rfl,hS4,?_⟩;simp only[ap];refine wpAnyH_done (by kernel_rfl) ?_ _;have HP3:=hid hp3;have HW3:=hid (hw5.trans hk3);have HS3:=hid hS4;clear hS hS3 hS4 hP5 hw5 hk3 hp3 hkd
  go_upto_region 4 with(fail)
  obtain⟨W6,hW6⟩:∃W6:World,{w3 with drawn:=w3.drawn+1}=W6:=⟨_,rfl⟩;have hkd:Kp w0.heap.size b w3 W6:=by rw[<- hW6];exact⟨Below.drew (Below.refl _ _),(Lib.OthersKept.refl _ _ w3).drew⟩
  have hS:=HS3.out.kp hkd (by omega) (by omega) hbk hbA;have hP5:Pg w0.heap.size b ((t++([tx.data.toList,[32,61,32]]:List (List UInt8)).flatten)++([[99,97,108,108,32],nE.data.toList]:List (List UInt8)).flatten) W6:=by rw[<- hW6];exact HP3.out
  have hw5:=HW3.out.trans hkd;refine wp_region_held (S:=SQ w.heap.size (w.heap.size+1) [.slice (some ⟨bA,off,none⟩) n c,.func (.func 117) #[.pointer (some ⟨b,0,none⟩)] #[],.int .i64 d] [.int .i64 kd,.int .i64 nn,.int .i64 pl,.string tx,.slice (some ⟨bk,ok,none⟩) m ck] bk ok (k:Int) bA (off+k*5+3) nE) (by kernel_rfl) ?_;rw[hW6];clear hW6;refine aG 0 (.agg #[.slice (some ⟨bA,off,none⟩) n c,.func (.func 117) #[.pointer (some ⟨b,0,none⟩)] #[],.int .i64 d]) (by kernel_rfl) rfl rfl (λ_ _ _ h=>h) rfl (ak rfl rfl (λw' q=>aV ((q.1.cell 0).trans rfl) ((q.1.cell 1).trans rfl) ((q.1.cell 2).trans rfl))) hS ?_;simp only[ap];refine aG 1 (.pointer (some ⟨w.heap.size+1,4,none⟩)) (by kernel_rfl) rfl rfl (λ_ _ _ h=>h) rfl (ay rfl rfl (aD _)) hS ?_;simp only[ap];refine aG 2 (.slice (some ⟨bk,ok,none⟩) m ck) (by kernel_rfl) rfl rfl (λ_ _ _ h=>h) rfl (ak rfl rfl (λw' q=>aH ((q.2.1.cell 4).trans rfl))) hS ?_;simp only[ap];refine aG 3 (.slice (some ⟨bk,if ck=1 then ok else ok+1,none⟩) (m-1) (ck-1)) (by kernel_rfl) rfl rfl (λ_ _ _ h=>h) rfl (zA rfl rfl (λw=>tJ bk ok m ck (by omega) w)) hS ?_;simp only[ap];refine aG 4 (.agg #[.slice (some ⟨bA,off,none⟩) n c,.func (.func 117) #[.pointer (some ⟨b,0,none⟩)] #[],.int .i64 d]) (by kernel_rfl) rfl rfl (λ_ _ _ h=>h) rfl (ak rfl rfl (λw' q=>aV ((q.1.cell 0).trans rfl) ((q.1.cell 1).trans rfl) ((q.1.cell 2).trans rfl))) hS ?_;simp only[ap]
  refine aG 5 (.func (.func 66) #[.agg #[.slice (some ⟨bA,off,none⟩) n c,.func (.func 117) #[.pointer (some ⟨b,0,none⟩)] #[],.int .i64 d]] #[]) (by kernel_rfl) rfl rfl (λ_ _ _ h=>h) rfl (CP rfl rfl) hS ?_;simp only[ap];refine aQ 6 ({dst:=some 32,op:=Op.call {callee:=Callee.value (Operand.func 192),args := #[Operand.tmp 26,Operand.tmp 29,Operand.tmp 31],argTypes := #[73,35,70]},type:=0,pos := "printer.go:168",after := #[{on:=0,ground:=Ground.data},{on:=3,ground:=Ground.data},{on:=5,ground:=Ground.data}],guard:=none}:Oper) (args := #[.agg #[.slice (some ⟨bA,off,none⟩) n c,.func (.func 117) #[.pointer (some ⟨b,0,none⟩)] #[],.int .i64 d],(.slice (some ⟨bk,if ck=1 then ok else ok+1,none⟩) (m-1) (ck-1)),.func (.func 66) #[.agg #[.slice (some ⟨bA,off,none⟩) n c,.func (.func 117) #[.pointer (some ⟨b,0,none⟩)] #[],.int .i64 d]] #[]]) CO rfl rfl (by kernel_rfl) rfl rfl (HT.out _ _ (Kp.w0 HB.out hw5) hP5 (by have:=HL.out;simp only[List.length_append,List.length_cons,List.length_nil,List.flatten_cons,List.flatten_nil]at this |-;omega)) ?_;rintro e w4 ⟨rfl,hp2,hk2⟩;have hS2:=hS.kp hk2 (by omega) (by omega) hbk hbA;refine .inr ⟨_,rfl,hS2,?_⟩;simp only[ap];refine wpAnyH_done (by kernel_rfl) ?_ _;have HP4:=hid hp2;have HW4:=hid (hw5.trans hk2);clear hS hP5 hw5 hkd HS3 HP3 HW3 hp2 hk2 hS2
  go_end0
  exact⟨rfl,by simpa using HP4.out,HW4.out⟩
end
section
open Tr (Bx aa bt eH Ints)
def uR (w0:World)(A:Option Addr)(l:List Tr.Nd):Prop:=∀(p:Nat) (bA off:Nat) (K:Option Addr) (m c:Nat),p<l.length->A=some ⟨bA,off,none⟩->w0.cell? ⟨bA,off+p*5+4,none⟩=some (.slice K m c)->(ag l p).kd=13->2<=m->c≠1
theorem N_ (l:List Tr.Nd)(f:Nat)(p k:Int)(ks:List Int)(hk:(ag l p).kd=13)(hks:(ag l p).ks=k :: ks):eF l f p=Ei l f (bu l p) k ks:=by
 have hkid:aL l p 0=k:=by unfold aL;rw[hks];rfl
 simp[eF,Ei,hk,hkid,hks]
theorem QS {w0:World}{A:Option Addr}{l:List Tr.Nd}{n c b f:Nat}(hx:nR w0 A l n)(hcp:uR w0 A l)(hr:lH w0 A l n c b f)(d:Int)(p k:Nat)(ks:List Int)(t:List UInt8)(w:World)(hp:p<n)(hk:(ag l p).kd=13)(hks:(ag l p).ks=(k:Int) :: ks)(hfew:ks.length+1<=100000)(hkn:k<n)
  (hke:∀x ∈ ks,∃x2:Nat,x=(x2:Int)/\x2<f/\x2<n/\Tr.aI (ag l x2).kd=true) (hb:Below w0.heap.size w0 w) (h:Pg w0.heap.size b t w) (hl:t.length+(eF l f p).length<=140737488355328):Calls Tryz.prog 72 #[PV A n c b d,.int .i64 (p:Int)] w (aK w0.heap.size b (t++eF l f p) (.tuple #[]) w):=by
 have hpl:p<l.length:=by rw[<- hx.len];exact hp
 rw[N_ l f p k ks hk hks]at hl |-;obtain⟨bA,off,K,cK,rfl,hlt0,y0,y1,y2,y3,y4,z5⟩:=aZ hx.nds (Below.refl _ w0) p hpl;rw[<- aS hpl]at y0 y1 y2 y3 y4 z5;rw[hks]at y4 z5;have hcap:=hcp p bA off K _ cK hpl rfl y4 hk;have c0:=(hb.cell (p:=⟨bA,off+p*5,none⟩) hlt0).trans y0;have c1:=(hb.cell (p:=⟨bA,off+p*5+1,none⟩) hlt0).trans y1;have c2:=(hb.cell (p:=⟨bA,off+p*5+2,none⟩) hlt0).trans y2;have c3:=(hb.cell (p:=⟨bA,off+p*5+3,none⟩) hlt0).trans y3;have c4:=(hb.cell (p:=⟨bA,off+p*5+4,none⟩) hlt0).trans y4;have hlt:bA<w.heap.size:=Nat.lt_of_lt_of_le hlt0 hb.size;rw[hk]at c0;have hpz:(p:Int)<(n:Int):=by omega
 obtain⟨bk,ok,rfl,hbk,hcs⟩:=z5 (by simp);obtain⟨m,hm⟩:∃m,m=ks.length+1:=⟨_,rfl⟩;rw[List.length_cons,<- hm]at hcap c4;have H:=hid h;have HB:=hid hb;have hbw:=h.bw;have hbl:=h.lt;unfold bu at hl |-;have HE:=hid (λw' (q:Below w0.heap.size w0 w') (h':Pg w0.heap.size b t w')=>Ko hx hr d 13 (ag l p).n (ag l p).pl (ag l p).tx bk ok m cK k ks t w' hkn hm (by omega) hcap hbk hcs hke q h' hl);unfold PV at HE;unfold PV;generalize Ei l f (ag l p).tx.data.toList k ks=y at *
 generalize (ag l p).n=nn at *
 generalize (ag l p).pl=pl at *
 generalize (ag l p).tx=tx at *
 clear hk hks hx hcp hr hb h hl hpl y0 y1 y2 y3 y4 z5 hcs hm hcap hke hfew;go_enter Tryz.func72,Tryz.ntmps72
 go_wp2_with (go_at_call 133;refine(HE.out _ ((HB.out.alloc hbw _).alloc (by rw[World.size_alloc];omega) _) ((H.out.alloc _).alloc _)).mono ?_);rintro e w1 ⟨rfl,hp1,hk1⟩;have HP:=hid hp1;have HK:=hid hk1;clear hp1 hk1;go_wp2
 go_end0
 exact⟨rfl,HP.out,(((Kp.refl _ b w).alloc hbw _).alloc (by rw[World.size_alloc];omega) _).trans HK.out⟩
end
section
open Tr (eH)
def Oa (l:List Tr.Nd)(n f p:Nat):Prop:=
 (((ag l p).kd=7\/(ag l p).kd=11\/(ag l p).kd=12\/(ag l p).kd=15\/(ag l p).kd=17)/\∃k:Nat,(ag l p).ks[0]?=some (k:Int)/\k<f/\k<n/\Tr.aI (ag l k).kd=true) \/
 ((ag l p).kd=8/\∃k j:Nat,(ag l p).ks=[(k:Int),(j:Int)]/\(k<f/\k<n/\Tr.aI (ag l k).kd=true)/\j<f/\j<n/\Tr.aI (ag l j).kd=true) \/
 ((ag l p).kd=9/\∃k:Nat,(ag l p).ks[0]?=some (k:Int)/\k<n) \/
 ((ag l p).kd=10/\∃k j:Nat,(ag l p).ks=[(k:Int),(j:Int)]/\k<n/\j<f/\j<n/\Tr.aI (ag l j).kd=true) \/
 ((ag l p).kd=13/\∃(k:Nat) (ks:List Int),(ag l p).ks=(k:Int) :: ks/\ks.length+1<=100000/\k<n/\∀x ∈ ks,∃x2:Nat,x=(x2:Int)/\x2<f/\x2<n/\Tr.aI (ag l x2).kd=true) \/
 ((ag l p).kd=14/\(ag l p).ks.length<=100000/\∀k ∈ (ag l p).ks,∃k2:Nat,k=(k2:Int)/\k2<f/\k2<n/\Tr.aI (ag l k2).kd=true) \/
 (ag l p).kd=16
theorem Kq {w0:World}{A:Option Addr}{l:List Tr.Nd}{n:Nat}(c b f:Nat)(hx:nR w0 A l n)(hcp:uR w0 A l)(d:Int)(p:Nat)(t:List UInt8)(w:World)(hp:p<n)(hs:Oa l n f p)(hb:Below w0.heap.size w0 w)(h:Pg w0.heap.size b t w)(hl:t.length+(eF l f p).length<=140737488355328) :
  Calls Tryz.prog 72 #[PV A n c b d,.int .i64 (p:Int)] w (aK w0.heap.size b (t++eF l f p) (.tuple #[]) w):=by
 have hr:=yc c b hx f;rcases hs with⟨hk,k,h0,h1,h2,h3⟩ |⟨hk,k,j,h0,⟨h1,h2,h3⟩,h4,h5,h6⟩ |⟨hk,k,h0,h1⟩ |⟨hk,k,j,h0,h1,h2,h3,h4⟩ |⟨hk,k,ks,h0,h1,h2,h3⟩ |⟨hk,h0,h1⟩ |hk
 ·rcases hk with hk |hk |hk |hk |hk
  ·exact Sk hx hr d p k t w hp hk h0 h1 h2 h3 hb h hl
  ·exact QL hx hr d p k t w hp hk h0 h1 h2 h3 hb h hl
  ·exact QM hx hr d p k t w hp hk h0 h1 h2 h3 hb h hl
  ·exact QN hx hr d p k t w hp hk h0 h1 h2 h3 hb h hl
  ·exact QO hx hr d p k t w hp hk h0 h1 h2 h3 hb h hl
 ·exact Sl hx hr d p k j t w hp hk h0 h1 h2 h3 h4 h5 h6 hb h hl
 ·exact Sm c b f hx d p k t w hp hk h0 h1 hb h hl
 ·exact QR hx hr d p k j t w hp hk h0 h1 h2 h3 h4 hb h hl
 ·exact QS hx hcp hr d p k ks t w hp hk h0 h1 h2 h3 hb h hl
 ·exact QQ c b f hx d p t w hp hk hr h0 h1 hb h hl
 ·exact QP c b f hx d p t w hp hk hb h hl
end
section
open Tr (Bx aa bt eH Ints)
def S3 (g:Nat)(P1 P2:List Value)(w:World):Prop:=Bx w g 73 P1/\Bx w (g+1) 73 P2
theorem S3.kp {B b g:Nat}{P1 P2:List Value}{w w':World}(h:S3 g P1 P2 w)(q:Kp B b w w')(h2:g≠b)(h3:g+1≠b):S3 g P1 P2 w':=⟨Bx.kp h.1 q h2 (by decide),Bx.kp h.2 q h3 (by decide)⟩
theorem Oc (w:World)(P1 P2:List Value):S3 w.heap.size P1 P2 ((w.alloc (.cells P1.toArray 73)).alloc (.cells P2.toArray 73)):=by
 have b1:=Bx.new w 73 P1;have b2:=Bx.new (w.alloc (.cells P1.toArray 73)) 73 P2;rw[World.size_alloc]at b2;exact⟨b1.alloc _,b2⟩
theorem zB {w0:World}{A:Option Addr}{l:List Tr.Nd}{n:Nat}(c b d:Nat)(hx:nR w0 A l n)(st:Nat->Int->List UInt8)(p:Nat)(L:Option Addr)(m cc:Nat)(locals:List Int)(t:List UInt8)(w:World)(hp:p<n)(hd:d<=100000)(hm:m=locals.length)(hm2:m<=100000)(hk2:(ag l p).ks.length<=100000)
  (hL:∀w',Kp w0.heap.size b w w'->Ints w' L locals) (hloc:∀k ∈ locals,∃k2:Nat,k=(k2:Int)/\k2<n)
  (hst:∀k ∈ (ag l p).ks,∀t' w',Below w0.heap.size w0 w'->Pg w0.heap.size b t' w'->t'.length+(st (d+1) k).length<=140737488355328->Calls Tryz.prog 246 #[PV A n c b ((d+1:Nat):Int),.int .i64 k] w' (aK w0.heap.size b (t'++st (d+1) k) (.tuple #[]) w'))
  (hb:Below w0.heap.size w0 w) (h:Pg w0.heap.size b t w) (hl:t.length+(fM l st d p locals).length<=140737488355328):Calls Tryz.prog 194 #[PV A n c b (d:Int),.int .i64 (p:Int),.slice L m cc] w (aK w0.heap.size b (t++fM l st d p locals) (.tuple #[]) w):=by
 have hpl:p<l.length:=by rw[<- hx.len];exact hp
 obtain⟨bA,off,rfl,hbA,hcA⟩:=hx.nds (by omega);obtain⟨K,cK,y0,y1,y2,y3,y4,y5⟩:=hcA p hpl;rw[<- aS hpl]at y4 y5;clear y0 y1 y2 y3 hcA;have hpz:(p:Int)<(n:Int):=by omega
 obtain⟨us,hus⟩:∃us,us=locals.map (jg l (d+1)):=⟨_,rfl⟩;obtain⟨ys,hys⟩:∃ys,ys=(ag l p).ks.map (st (d+1)):=⟨_,rfl⟩;unfold fM at hl |-;rw[<- hus,<- hys]at hl |-;have HI:=hid (λt' w' (h':Pg w0.heap.size b t' w') (hl':t'.length+(fK d).length<=140737488355328)=>jL (B:=w0.heap.size) (some ⟨bA,off,none⟩) n c b d t' w' (by omega) h' hl');have HV0:=λ(k2:Nat) t' w' (hk:k2<n) (q:Below w0.heap.size w0 w') (h':Pg w0.heap.size b t' w') (hl':t'.length+(jg l (d+1) k2).length<=140737488355328)=>tH c b (d+1) hx k2 t' w' hk (by omega) q h' hl'
 have hd1:((d+1:Nat):Int)=(d:Int)+1:=rfl;rw[hd1]at HV0 hst;clear hd1;have HV:=hid HV0;have HST:=hid hst;have HLO:=hid hloc;have HLI:=hid hL;have HM:=hid hm;have HU:=hid hus;have HY:=hid hys;obtain⟨ks,hks⟩:∃ks,ks=(ag l p).ks:=⟨_,rfl⟩;rw[<- hks]at HST HY y4 y5 hk2;obtain⟨mk,hmk⟩:∃mk,mk=ks.length:=⟨_,rfl⟩;rw[<- hmk]at y4 hk2;have HY4:=hid y4;have HY5:=hid y5;have HMK:=hid hmk;generalize fK d=yi at *
 have HL:=hid hl;have HB:=hid hb;have H:=hid h;have hbw:=h.bw;have hbl:=h.lt;have hsz:=hb.size;unfold PV at HI HV HST;unfold PV;have HX0:=hid (Oc w [.slice (some ⟨bA,off,none⟩) n c,.func (.func 117) #[.pointer (some ⟨b,0,none⟩)] #[],.int .i64 (d:Int)] [.slice (some ⟨bA,off,none⟩) n c,.func (.func 117) #[.pointer (some ⟨b,0,none⟩)] #[],.int .i64 ((d:Int)+1)]);have HP0:=hid ((h.alloc (.cells #[.slice (some ⟨bA,off,none⟩) n c,.func (.func 117) #[.pointer (some ⟨b,0,none⟩)] #[],.int .i64 (d:Int)] 73)).alloc (.cells #[.slice (some ⟨bA,off,none⟩) n c,.func (.func 117) #[.pointer (some ⟨b,0,none⟩)] #[],.int .i64 ((d:Int)+1)] 73));have HW0:=hid (((Kp.refl w0.heap.size b w).alloc hbw (.cells #[.slice (some ⟨bA,off,none⟩) n c,.func (.func 117) #[.pointer (some ⟨b,0,none⟩)] #[],.int .i64 (d:Int)] 73)).alloc (by rw[World.size_alloc];omega) (.cells #[.slice (some ⟨bA,off,none⟩) n c,.func (.func 117) #[.pointer (some ⟨b,0,none⟩)] #[],.int .i64 ((d:Int)+1)] 73));clear hst hloc hL hm hus hys y4 y5 hks hmk hl hb h hx hpl HV0;go_enter Tryz.func194,Tryz.ntmps194
 go_wp2_with (go_at_call 117;refine(aC w0.heap.size b t [[32,123,10]] _ HP0.out (by have:=HL.out;simp only[List.length_append,List.length_cons,List.length_nil,List.flatten_cons,List.flatten_nil]at this |-;omega) (by simp) 1 rfl _ (by rfl) _ (by simp[World.size_alloc])).mono ?_);rintro e w1 ⟨rfl,hp1,hk1⟩;have HX1:=hid (HX0.out.kp hk1 (by omega) (by omega));have HP1:=hid hp1;have HW1:=hid (HW0.out.trans hk1);clear HX0 HP0 HW0 hp1 hk1;go_wp2
 go_loopg [8,22] m (λg _ a22 wr=>∃i:Nat,a22=.int .i64 (i:Int)/\i<=m/\g=m-i/\Pg w0.heap.size b (t++[32,123,10]++(us.take i).flatten) wr/\Kp w0.heap.size b w wr/\S3 w.heap.size [.slice (some ⟨bA,off,none⟩) n c,.func (.func 117) #[.pointer (some ⟨b,0,none⟩)] #[],.int .i64 (d:Int)] [.slice (some ⟨bA,off,none⟩) n c,.func (.func 117) #[.pointer (some ⟨b,0,none⟩)] #[],.int .i64 ((d:Int)+1)] wr)
 case atStart=>exact⟨0,rfl,Nat.zero_le _,rfl,by simpa using HP1.out,HW1.out,HX1.out⟩
 case round=>
  obtain⟨i,rfl,him,rfl,hp,hk,hx⟩:=hrel;have HP2:=hid hp;have HW2:=hid hk;have HX2:=hid hx;have e0:=(hx.2.cell 0).trans rfl;have e1:=(hx.2.cell 1).trans rfl;have e2:=(hx.2.cell 2).trans rfl;by_cases hlt:i<m
  ·have hlz:(i:Int)<(m:Int):=by omega
   have hik:i<locals.length:=by rw[<- HM.out];exact hlt
   obtain⟨bS,oS,rfl,hbS,hcS⟩:=HLI.out wr hk (by omega);have cS:=hcS i hik;have hiy:i<us.length:=by rw[HU.out,List.length_map];exact hik
   have hsn:(us.take (i+1)).flatten=(us.take i).flatten++jg l (d+1) locals[i]:=by
    rw[List.take_succ_eq_append_getElem hiy,List.flatten_append];simp[HU.out]
   have hfl:=qY us i hiy;have hyi:us[i].length=(jg l (d+1) locals[i]).length:=by simp[HU.out]
   obtain⟨k2,ek,hk2n⟩:=HLO.out locals[i] (List.getElem_mem hik);rw[ek]at cS hsn hyi;have HC:=hid (HV.out k2);have hle:t.length+3+(us.take i).flatten.length+(jg l (d+1) k2).length<=140737488355328:=by
    have:=HL.out;simp only[List.length_append,List.length_cons,List.length_nil]at this;omega
   have HS:=hid hsn;have hb3:=HB.out.trans hk.1;clear hsn hfl hyi hp hk hx hcS hiy ek;go_wp2_with (go_at_call 119;refine(HC.out _ _ hk2n hb3 HP2.out (by simp only[List.length_append,List.length_cons,List.length_nil];omega)).mono ?_);rintro e w3 ⟨rfl,hp4,hk4⟩;have HX4:=hid (HX2.out.kp hk4 (by omega) (by omega));have HP4:=hid hp4;have HW4:=hid (HW2.out.trans hk4);clear hp4 hk4 e0 e1 e2;go_wp2
   go_roundg (m-(i+1))
   case measure=>go_light;omega
   case rel=>
    go_light
    exact⟨i+1,by go_num,by omega,rfl,by have:=HP4.out;rw[HS.out,<- List.append_assoc];exact this,HW4.out,HX4.out⟩
  ·obtain rfl:i=m:=by omega
   have hlz:¬(i:Int)<(i:Int):=by omega
   have ht:us.take i=us:=List.take_of_length_le (by rw[HU.out,List.length_map];have:=HM.out;omega);rw[ht]at hp;have HP3:=hid hp;have hb3:=HB.out.trans hk.1;have n4:=(hb3.cell (p:=⟨bA,off+p*5+4,none⟩) hbA).trans HY4.out;have e3:=(hx.1.cell 0).trans rfl;clear hp hk ht HP2 e0 e1 e2 hx;go_wp2;clear n4 e3
   go_loopg [10,37] mk (λg _ a37 wr=>∃i:Nat,a37=.int .i64 (i:Int)/\i<=mk/\g=mk-i/\Pg w0.heap.size b (t++[32,123,10]++us.flatten++(ys.take i).flatten) wr/\Kp w0.heap.size b w wr/\S3 w.heap.size [.slice (some ⟨bA,off,none⟩) n c,.func (.func 117) #[.pointer (some ⟨b,0,none⟩)] #[],.int .i64 (d:Int)] [.slice (some ⟨bA,off,none⟩) n c,.func (.func 117) #[.pointer (some ⟨b,0,none⟩)] #[],.int .i64 ((d:Int)+1)] wr)
   case atStart=>exact⟨0,rfl,Nat.zero_le _,rfl,by simpa using HP3.out,HW2.out,HX2.out⟩
   case round=>
    obtain⟨j,rfl,hjm,rfl,hp,hk,hx⟩:=hrel;have HP4:=hid hp;have HW4:=hid hk;have HX4:=hid hx;have hb4:=HB.out.trans hk.1;have e0:=(hx.2.cell 0).trans rfl;have e1:=(hx.2.cell 1).trans rfl;have e2:=(hx.2.cell 2).trans rfl;by_cases hjt:j<mk
    ·have hjz:(j:Int)<(mk:Int):=by omega
     have hik:j<ks.length:=by rw[<- HMK.out];exact hjt
     obtain⟨bS,oS,rfl,hbS,hcS⟩:=(HY5.out.below hb4) (by omega);have cS:=hcS j hik;have hiy:j<ys.length:=by rw[HY.out,List.length_map];exact hik
     have hsn:(ys.take (j+1)).flatten=(ys.take j).flatten++st (d+1) ks[j]:=by
      rw[List.take_succ_eq_append_getElem hiy,List.flatten_append];simp[HY.out]
     have hfl:=qY ys j hiy;have hyi:ys[j].length=(st (d+1) ks[j]).length:=by simp[HY.out]
     have HC:=hid (HST.out ks[j] (List.getElem_mem hik));generalize ks[j]=k at *
     have hle:t.length+3+us.flatten.length+(ys.take j).flatten.length+(st (d+1) k).length<=140737488355328:=by
      have:=HL.out;simp only[List.length_append,List.length_cons,List.length_nil]at this;omega
     have HS:=hid hsn;clear hsn hfl hyi hp hk hx hcS hiy;go_wp2_with (go_at_call 246;refine(HC.out _ _ hb4 HP4.out (by simp only[List.length_append,List.length_cons,List.length_nil];omega)).mono ?_);rintro e w3 ⟨rfl,hp4,hk4⟩;have HX5:=hid (HX4.out.kp hk4 (by omega) (by omega));have HP5:=hid hp4;have HW5:=hid (HW4.out.trans hk4);clear hp4 hk4 e0 e1 e2;go_wp2
     go_roundg (mk-(j+1))
     case measure=>go_light;omega
     case rel=>
      go_light
      exact⟨j+1,by go_num,by omega,rfl,by have:=HP5.out;rw[HS.out,<- List.append_assoc];exact this,HW5.out,HX5.out⟩
    ·obtain rfl:j=mk:=by omega
     have hjz:¬(j:Int)<(j:Int):=by omega
     have ht:ys.take j=ys:=List.take_of_length_le (by rw[HY.out,List.length_map];have:=HMK.out;omega);rw[ht]at hp;have HP5:=hid hp;clear hp hk ht HP4 e0 e1 e2;have e0:=(hx.1.cell 0).trans rfl;have e1:=(hx.1.cell 1).trans rfl;have e2:=(hx.1.cell 2).trans rfl;clear hx;go_wp2_with (go_at_call 190;refine(HI.out _ _ HP5.out (by have:=HL.out;simp only[List.length_append,List.length_cons,List.length_nil]at this |-;omega)).mono ?_);rintro e w3 ⟨rfl,hp4,hk4⟩;have hx5:=HX4.out.kp hk4 (by omega) (by omega);have HX5:=hid hx5;have HP6:=hid hp4;have HW6:=hid (HW4.out.trans hk4);clear hp4 hk4 e0 e1 e2;have e1:=(hx5.1.cell 1).trans rfl;clear hx5;go_wp2_with (go_at_call 117;refine(aC w0.heap.size b _ [[125]] _ HP6.out (by have:=HL.out;simp only[List.length_append,List.length_cons,List.length_nil,List.flatten_cons,List.flatten_nil]at this |-;omega) (by simp) 1 rfl _ (by rfl) _ rfl).mono ?_);rintro e w5 ⟨rfl,hp7,hk7⟩;have HP7:=hid hp7;have HW7:=hid (HW6.out.trans hk7);clear hp7 hk7 e1;go_wp2
     go_end0
     exact⟨rfl,by simpa using HP7.out,HW7.out⟩
end
end Go.Proofs.YteecfjhjllajlaaGreatDoor
