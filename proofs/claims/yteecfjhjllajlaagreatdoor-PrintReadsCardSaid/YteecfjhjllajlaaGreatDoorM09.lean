/- PROVED: Xh Xi Xj Xk. No more condition. -/
import Derived.Test.YteecfjhjllajlaaGreatDoorM08
set_option maxHeartbeats 2500000
set_option maxRecDepth 100000
namespace Go.Proofs.YteecfjhjllajlaaGreatDoor
open Go.Lib (hid)
open Go Go.RowKit
section
open Tr (Bx aa bt eH Ints)
theorem Km:Own 245:=⟨_,Tryz.func245,by kernel_rfl,by kernel_rfl⟩
theorem CL:Own 193:=⟨_,Tryz.func193,by kernel_rfl,by kernel_rfl⟩
theorem wo (b:Nat)(w:World):(Instr.fieldAt 73 (.pointer (some ⟨b,0,none⟩)) 2).run Tryz.prog w=.ok (.pointer (some ⟨b,2,none⟩)) w:=by kernel_rfl
theorem pU (b:Nat)(w:World):(Instr.fieldAt 37 (.pointer (some ⟨b,0,none⟩)) 3).run Tryz.prog w=.ok (.pointer (some ⟨b,3,none⟩)) w:=by kernel_rfl
section
variable {ops:Array Oper} {Q:Exit->Act->World->Prop} {a:Act} {w:World} {o:Oper}
theorem Gl {K:Act->World->Prop}{x y:Operand}{s u:ByteArray}(ho:o.op=.buildSlice 40 3 #[(0,x),(1,.const (.string ⟨#[32]⟩)),(2,y)])(hx:a.eval x=.string s)(hy:a.eval y=.string u)
  (h:K (a.put o.dst (.slice (some ⟨w.heap.size,0,none⟩) 3 3)) (w.alloc (.cells #[.string s,.string ⟨#[32]⟩,.string u] 9))):o.wp Tryz.prog a w K Q:=by
 have hc:a.eval (.const (.string ⟨#[32]⟩))=.string ⟨#[32]⟩:=rfl;unfold Oper.wp execOp;simp only[ho,List.map_toArray,List.map_cons,List.map_nil,hx,hy,hc];simp[go_sem];exact h
end
theorem Kn (d:Nat):Lib.repeatL [32,32] d=fK d:=by
 induction d with
 |zero=>rfl
 |succ d ih=>show[32,32]++Lib.repeatL [32,32] d=_;rw[ih];rfl
theorem rC (n:Int)(w:World):Calls Tryz.prog 193 #[.int .i64 n] w λe w'=>e=.returned (.string (lZ (qX n)))/\w=w':=by
 by_cases h1:n=1
 ·subst h1;go_enter Tryz.func193,Tryz.ntmps193
  go_wp2
  go_ret
  exact⟨rfl,rfl⟩
 by_cases h2:n=2
 ·subst h2;go_enter Tryz.func193,Tryz.ntmps193
  go_wp2
  go_ret
  exact⟨rfl,rfl⟩
 by_cases h3:n=3
 ·subst h3;go_enter Tryz.func193,Tryz.ntmps193
  go_wp2
  go_ret
  exact⟨rfl,rfl⟩
 have d1:(n==1)=false:=by rw[beq_eq_false_iff_ne];exact h1
 have d2:(n==2)=false:=by rw[beq_eq_false_iff_ne];exact h2
 have d3:(n==3)=false:=by rw[beq_eq_false_iff_ne];exact h3
 have ht:lZ (qX n)=⟨#[102,117,110]⟩:=by unfold qX;rw[if_neg h1,if_neg h2,if_neg h3];rfl
 rw[ht];clear h1 h2 h3 ht;go_enter Tryz.func193,Tryz.ntmps193
 go_wp2
 go_ret
 exact⟨rfl,rfl⟩
theorem jL {B:Nat}(A:Option Addr)(n c b d:Nat)(t:List UInt8)(w:World)(hd:d<=1000000)(h:Pg B b t w)(hl:t.length+(fK d).length<=140737488355328):Calls Tryz.prog 190 #[PV A n c b (d:Int)] w (aK B b (t++fK d) (.tuple #[]) w):=by
 have H:=hid h;have hbw:=h.bw;have hbl:=h.lt;have HL:=hid hl;have HX:=hid (Bx.new w 73 [.slice A n c,.func (.func 117) #[.pointer (some ⟨b,0,none⟩)] #[],.int .i64 (d:Int)]);have HW:=hid ((Kp.refl B b w).alloc hbw (.cells #[.slice A n c,.func (.func 117) #[.pointer (some ⟨b,0,none⟩)] #[],.int .i64 (d:Int)] 73));clear h hl;unfold PV;go_enter Tryz.func190,Tryz.ntmps190
 go_upto_region 1 with(fail)
 obtain⟨W4,hW4⟩:∃W4:World,(w.alloc (.cells #[.slice A n c,.func (.func 117) #[.pointer (some ⟨b,0,none⟩)] #[],.int .i64 (d:Int)] 73))=W4:=⟨_,rfl⟩;have hX:Bx W4 w.heap.size 73 [.slice A n c,.func (.func 117) #[.pointer (some ⟨b,0,none⟩)] #[],.int .i64 (d:Int)]:=hW4▸HX.out;have hW:Kp B b w W4:=hW4▸HW.out;have hP4:Pg B b t W4:=hW4▸H.out.alloc (.cells #[.slice A n c,.func (.func 117) #[.pointer (some ⟨b,0,none⟩)] #[],.int .i64 (d:Int)] 73);rw[hW4];obtain⟨W5,hW5⟩:∃W5:World,{W4 with drawn:=W4.drawn+1}=W5:=⟨_,rfl⟩;have hkd:Kp B b W4 W5:=by rw[<- hW5];exact⟨Below.drew (Below.refl _ _),(Lib.OthersKept.refl _ _ W4).drew⟩
 have hS:Bx W5 w.heap.size 73 [.slice A n c,.func (.func 117) #[.pointer (some ⟨b,0,none⟩)] #[],.int .i64 (d:Int)]:=Bx.kp hX hkd (by omega) (by decide);have hP5:Pg B b t W5:=by rw[<- hW5];exact hP4
 have hw5:=hW.trans hkd;have hB5:=hP5.bw;refine wp_region_held (S:=λw'=>Bx w' w.heap.size 73 [.slice A n c,.func (.func 117) #[.pointer (some ⟨b,0,none⟩)] #[],.int .i64 (d:Int)]) (by kernel_rfl) ?_;rw[hW5];clear hW5 hX hW hP4 HX HW hW4;refine aG 0 (.pointer (some ⟨w.heap.size,1,none⟩)) (by kernel_rfl) rfl rfl (λ_ _ _ h=>h) rfl (ay rfl rfl (cZ _)) hS ?_;simp only[ap];refine aG 1 (.func (.func 117) #[.pointer (some ⟨b,0,none⟩)] #[]) (by kernel_rfl) rfl rfl (λ_ _ _ h=>h) rfl (ak rfl rfl (λw' q=>fF ((q.cell 1).trans rfl))) hS ?_;simp only[ap];refine aG 2 (.pointer (some ⟨w.heap.size,2,none⟩)) (by kernel_rfl) rfl rfl (λ_ _ _ h=>h) rfl (ay rfl rfl (wo _)) hS ?_;simp only[ap];refine aG 3 (.int .i64 (d:Int)) (by kernel_rfl) rfl rfl (λ_ _ _ h=>h) rfl (ak rfl rfl (λw' q=>aB ((q.cell 2).trans rfl))) hS ?_;simp only[ap]
 refine aQ 4 ({dst:=some 6,op:=Op.call {callee:=Callee.value (Operand.func 245),args := #[Operand.const (Value.string {data := #[32,32]}),Operand.tmp 5],argTypes := #[9,3]},type:=9,pos := "printer.go:100",after := #[{on:=3,ground:=Ground.data}],guard:=none}:Oper) (args := #[.string ⟨#[32,32]⟩,.int .i64 (d:Int)]) Km rfl rfl (by kernel_rfl) rfl rfl ((Tryz.strings_Repeat ⟨#[32,32]⟩ d W5 (by omega) (by show 2*d<=_;omega)).mono λe w' ⟨q1,q2⟩=>(⟨by rw[q1];rw[show(⟨#[32,32]⟩:ByteArray).data.toList=[32,32]from rfl,Kn],q2⟩:e=Ending.returned (.string ⟨(fK d).toArray⟩)/\Below W5.heap.size W5 w')) ?_;rintro e w2 ⟨rfl,hb2⟩;have hk2:Kp B b W5 w2:=Kp.below hB5 hb2;have hS2:=Bx.kp hS hk2 (by omega) (by decide);have hP2:=hP5.below hb2;refine .inr ⟨_,rfl,hS2,?_⟩;simp only[ap];have hS3:=hS2.alloc (.cells #[.string (lZ (fK d))] 9);refine dQ 5 ({dst:=some 7,op:=Op.buildSlice 40 1 #[(0,Operand.tmp 6)],type:=40,pos := "printer.go:100",after := #[{on:=4,ground:=Ground.data}],guard:=none}:Oper) rfl (by kernel_rfl) rfl (x_ rfl rfl ⟨hS3,?_⟩);simp only[ap]
 refine kE 6 ({dst:=some 8,op:=Op.call {callee:=Callee.value (Operand.tmp 3),args := #[Operand.tmp 7],argTypes := #[40]},type:=0,pos := "printer.go:100",after := #[{on:=1,ground:=Ground.data},{on:=5,ground:=Ground.data},{on:=4,ground:=Ground.chain}],guard:=none}:Oper) (pre := #[.pointer (some ⟨b,0,none⟩)]) (args := #[.slice (some ⟨w2.heap.size,0,none⟩) 1 1]) kD rfl rfl (by kernel_rfl) rfl rfl rfl (aC B b t [fK d] w2 hP2 (by simp;exact HL.out) (by simp) 1 rfl _ (by rfl) _ rfl) ?_;rintro e w3 ⟨rfl,hp3,hk3⟩;have hS4:=Bx.kp hS2 hk3 (by omega) (by decide);refine .inr ⟨_,rfl,hS4,?_⟩;simp only[ap];refine wpAnyH_done (by kernel_rfl) ?_ _;have HP:=hid hp3;have HK:=hid ((hw5.trans hk2).trans hk3);clear hS hS2 hS3 hS4 hP5 hP2 hw5 hk2 hk3 hp3 hb2 hkd hB5;go_wp2
 go_end0
 exact⟨rfl,by simpa using HP.out,HK.out⟩
theorem zy {w0:World}{A:Option Addr}{l:List Tr.Nd}{n:Nat}(c b:Nat)(d:Int)(hx:nR w0 A l n)(p:Nat)(t:List UInt8)(w:World)(hp:p<n)(hb:Below w0.heap.size w0 w)(h:Pg w0.heap.size b t w)(hl:t.length+(lY l p).length<=140737488355328) :
  Calls Tryz.prog 191 #[PV A n c b d,.int .i64 (p:Int)] w (aK w0.heap.size b (t++lY l p) (.tuple #[]) w):=by
 have hpl:p<l.length:=by rw[<- hx.len];exact hp
 obtain⟨bA,off,K,cK,rfl,hlt,c0,c1,c2,c3,c4,z5⟩:=aZ hx.nds hb p hpl;rw[<- aS hpl]at c0 c1 c2 c3 c4 z5;have hpz:(p:Int)<(n:Int):=by omega
 unfold lY bu at hl |-;have H:=hid h;have hbw:=h.bw;have hbl:=h.lt;have HL:=hid hl;generalize (ag l p).kd=kd at *
 generalize (ag l p).n=nn at *
 generalize (ag l p).pl=pl at *
 generalize (ag l p).tx=tx at *
 generalize (ag l p).ks.length=nk at *
 have HX:=hid (jK w [.slice (some ⟨bA,off,none⟩) n c,.func (.func 117) #[.pointer (some ⟨b,0,none⟩)] #[],.int .i64 d] [.int .i64 kd,.int .i64 nn,.int .i64 pl,.string tx,.slice K nk cK]);have HW:=hid (((Kp.refl w0.heap.size b w).alloc hbw (.cells #[.slice (some ⟨bA,off,none⟩) n c,.func (.func 117) #[.pointer (some ⟨b,0,none⟩)] #[],.int .i64 d] 73)).alloc (by rw[World.size_alloc];omega) (.cells #[.int .i64 kd,.int .i64 nn,.int .i64 pl,.string tx,.slice K nk cK] 37));clear z5 hx hb h hl hpl;unfold PV;go_enter Tryz.func191,Tryz.ntmps191
 go_upto_region 2 with(fail)
 obtain⟨W4,hW4⟩:∃W4:World,((w.alloc (.cells #[.slice (some ⟨bA,off,none⟩) n c,.func (.func 117) #[.pointer (some ⟨b,0,none⟩)] #[],.int .i64 d] 73)).alloc (.cells #[.int .i64 kd,.int .i64 nn,.int .i64 pl,.string tx,.slice K nk cK] 37))=W4:=⟨_,rfl⟩;have hX:S2 w.heap.size (w.heap.size+1) [.slice (some ⟨bA,off,none⟩) n c,.func (.func 117) #[.pointer (some ⟨b,0,none⟩)] #[],.int .i64 d] [.int .i64 kd,.int .i64 nn,.int .i64 pl,.string tx,.slice K nk cK] W4:=hW4▸HX.out;have hW:Kp w0.heap.size b w W4:=hW4▸HW.out;have hP4:Pg w0.heap.size b t W4:=hW4▸(H.out.alloc (.cells #[.slice (some ⟨bA,off,none⟩) n c,.func (.func 117) #[.pointer (some ⟨b,0,none⟩)] #[],.int .i64 d] 73)).alloc (.cells #[.int .i64 kd,.int .i64 nn,.int .i64 pl,.string tx,.slice K nk cK] 37);rw[hW4];obtain⟨W5,hW5⟩:∃W5:World,{W4 with drawn:=W4.drawn+1}=W5:=⟨_,rfl⟩;have hkd:Kp w0.heap.size b W4 W5:=by rw[<- hW5];exact⟨Below.drew (Below.refl _ _),(Lib.OthersKept.refl _ _ W4).drew⟩
 have hS:S2 w.heap.size (w.heap.size+1) [.slice (some ⟨bA,off,none⟩) n c,.func (.func 117) #[.pointer (some ⟨b,0,none⟩)] #[],.int .i64 d] [.int .i64 kd,.int .i64 nn,.int .i64 pl,.string tx,.slice K nk cK] W5:=hX.kp hkd (by omega) (by omega);have hP5:Pg w0.heap.size b t W5:=by rw[<- hW5];exact hP4
 have hw5:=hW.trans hkd;have hB5:=hP5.bw;refine wp_region_held (S:=S2 w.heap.size (w.heap.size+1) [.slice (some ⟨bA,off,none⟩) n c,.func (.func 117) #[.pointer (some ⟨b,0,none⟩)] #[],.int .i64 d] [.int .i64 kd,.int .i64 nn,.int .i64 pl,.string tx,.slice K nk cK]) (by kernel_rfl) ?_;rw[hW5];clear hW5 hX hW hP4 HX HW hW4;refine aG 0 (.pointer (some ⟨w.heap.size,1,none⟩)) (by kernel_rfl) rfl rfl (λ_ _ _ h=>h) rfl (ay rfl rfl (cZ _)) hS ?_;simp only[ap];refine aG 1 (.func (.func 117) #[.pointer (some ⟨b,0,none⟩)] #[]) (by kernel_rfl) rfl rfl (λ_ _ _ h=>h) rfl (ak rfl rfl (λw' q=>fF ((q.1.cell 1).trans rfl))) hS ?_;simp only[ap];refine aG 2 (.pointer (some ⟨w.heap.size+1,3,none⟩)) (by kernel_rfl) rfl rfl (λ_ _ _ h=>h) rfl (ay rfl rfl (pU _)) hS ?_;simp only[ap];refine aG 3 (.string tx) (by kernel_rfl) rfl rfl (λ_ _ _ h=>h) rfl (ak rfl rfl (λw' q=>dV ((q.2.cell 3).trans rfl))) hS ?_;simp only[ap];refine aG 4 (.pointer (some ⟨w.heap.size+1,1,none⟩)) (by kernel_rfl) rfl rfl (λ_ _ _ h=>h) rfl (ay rfl rfl (jT _)) hS ?_;simp only[ap];refine aG 5 (.int .i64 nn) (by kernel_rfl) rfl rfl (λ_ _ _ h=>h) rfl (ak rfl rfl (λw' q=>aB ((q.2.cell 1).trans rfl))) hS ?_;simp only[ap]
 refine aQ 6 ({dst:=some 16,op:=Op.call {callee:=Callee.value (Operand.func 193),args := #[Operand.tmp 15],argTypes := #[3]},type:=9,pos := "printer.go:38",after := #[{on:=5,ground:=Ground.data}],guard:=none}:Oper) (args := #[.int .i64 nn]) CL rfl rfl (by kernel_rfl) rfl rfl (rC nn W5) ?_;rintro e w2 ⟨rfl,rfl⟩;refine .inr ⟨_,rfl,hS,?_⟩;simp only[ap];have hS3:S2 w.heap.size (w.heap.size+1) [.slice (some ⟨bA,off,none⟩) n c,.func (.func 117) #[.pointer (some ⟨b,0,none⟩)] #[],.int .i64 d] [.int .i64 kd,.int .i64 nn,.int .i64 pl,.string tx,.slice K nk cK] (W5.alloc (.cells #[.string tx,.string ⟨#[32]⟩,.string (lZ (qX nn))] 9)):=⟨hS.1.alloc _,hS.2.alloc _⟩;refine dQ 7 ({dst:=some 17,op:=Op.buildSlice 40 3 #[(0,Operand.tmp 13),(1,Operand.const (Value.string {data := #[32]})),(2,Operand.tmp 16)],type:=40,pos := "printer.go:38",after := #[{on:=3,ground:=Ground.data},{on:=6,ground:=Ground.data}],guard:=none}:Oper) rfl (by kernel_rfl) rfl (Gl rfl rfl rfl ⟨hS3,?_⟩);simp only[ap]
 refine kE 8 ({dst:=some 18,op:=Op.call {callee:=Callee.value (Operand.tmp 11),args := #[Operand.tmp 17],argTypes := #[40]},type:=0,pos := "printer.go:38",after := #[{on:=1,ground:=Ground.data},{on:=7,ground:=Ground.data},{on:=6,ground:=Ground.chain}],guard:=none}:Oper) (pre := #[.pointer (some ⟨b,0,none⟩)]) (args := #[.slice (some ⟨W5.heap.size,0,none⟩) 3 3]) kD rfl rfl (by kernel_rfl) rfl rfl rfl (aC w0.heap.size b t [tx.data.toList,[32],qX nn] W5 hP5 (by simp;have:=HL.out;simp at this;omega) (by simp) 3 rfl _ (by simp[iq];rfl) _ rfl) ?_;rintro e w3 ⟨rfl,hp3,hk3⟩;have hS4:=hS.kp hk3 (by omega) (by omega);refine .inr ⟨_,rfl,hS4,?_⟩;simp only[ap];refine wpAnyH_done (by kernel_rfl) ?_ _;have HP:=hid hp3;have HK:=hid (hw5.trans hk3);clear hS hS3 hS4 hP5 hw5 hk3 hp3 hkd hB5;go_wp2
 go_end0
 exact⟨rfl,by simpa using HP.out,HK.out⟩
theorem tH {w0:World}{A:Option Addr}{l:List Tr.Nd}{n:Nat}(c b d:Nat)(hx:nR w0 A l n)(p:Nat)(t:List UInt8)(w:World)(hp:p<n)(hd:d<=1000000)(hb:Below w0.heap.size w0 w)(h:Pg w0.heap.size b t w)(hl:t.length+(jg l d p).length<=140737488355328) :
  Calls Tryz.prog 119 #[PV A n c b (d:Int),.int .i64 (p:Int)] w (aK w0.heap.size b (t++jg l d p) (.tuple #[]) w):=by
 unfold jg at hl |-;have HB:=hid hb;have hbw:=h.bw;have hbl:=h.lt;have HI:=hid (λt' w' (h':Pg w0.heap.size b t' w') (hl':t'.length+(fK d).length<=140737488355328)=>jL (B:=w0.heap.size) A n c b d t' w' hd h' hl');have HT:=hid (λt' w' (q:Below w0.heap.size w0 w') (h':Pg w0.heap.size b t' w') (hl':t'.length+(lY l p).length<=140737488355328)=>zy c b (d:Int) hx p t' w' hp q h' hl');generalize fK d=y at *
 generalize lY l p=z at *
 have HL:=hid hl;have HX0:=hid (Bx.new w 73 [.slice A n c,.func (.func 117) #[.pointer (some ⟨b,0,none⟩)] #[],.int .i64 (d:Int)]);have HP0:=hid (h.alloc (.cells #[.slice A n c,.func (.func 117) #[.pointer (some ⟨b,0,none⟩)] #[],.int .i64 (d:Int)] 73));have HW0:=hid ((Kp.refl w0.heap.size b w).alloc hbw (.cells #[.slice A n c,.func (.func 117) #[.pointer (some ⟨b,0,none⟩)] #[],.int .i64 (d:Int)] 73));unfold PV at HI HT;unfold PV;clear hx hb h hl;go_enter Tryz.func119,Tryz.ntmps119
 go_wp2_with (go_at_call 190;refine(HI.out _ _ HP0.out (by have:=HL.out;simp at this;omega)).mono ?_);rintro e w1 ⟨rfl,hp,hk⟩;have HX1:=hid (Bx.kp HX0.out hk (by omega) (by decide));have HP1:=hid hp;have HW1:=hid (HW0.out.trans hk);clear HX0 HP0 HW0 hp hk;have e0:=(HX1.out.cell 0).trans rfl;have e1:=(HX1.out.cell 1).trans rfl;have e2:=(HX1.out.cell 2).trans rfl;go_wp2_with (go_at_call 117;refine(aC w0.heap.size b _ [[118,97,114,32]] _ HP1.out (by simp;have:=HL.out;simp at this;omega) (by simp) 1 rfl _ (by rfl) _ rfl).mono ?_);rintro e w2 ⟨rfl,hp,hk⟩;have HX2:=hid (Bx.kp HX1.out hk (by omega) (by decide));have HP2:=hid hp;have HW2:=hid (HW1.out.trans hk);clear HX1 HP1 HW1 hp hk;clear e0 e1 e2;have e0:=(HX2.out.cell 0).trans rfl;have e1:=(HX2.out.cell 1).trans rfl;have e2:=(HX2.out.cell 2).trans rfl;go_wp2_with (go_at_call 191;refine(HT.out _ _ (Kp.w0 HB.out HW2.out) HP2.out (by simp;have:=HL.out;simp at this;omega)).mono ?_);rintro e w3 ⟨rfl,hp,hk⟩;have HX3:=hid (Bx.kp HX2.out hk (by omega) (by decide));have HP3:=hid hp;have HW3:=hid (HW2.out.trans hk);clear HX2 HP2 HW2 hp hk;clear e0 e1 e2;have e0:=(HX3.out.cell 0).trans rfl;have e1:=(HX3.out.cell 1).trans rfl;have e2:=(HX3.out.cell 2).trans rfl;go_wp2_with (go_at_call 117;refine(aC w0.heap.size b _ [[59,10]] _ HP3.out (by simp;have:=HL.out;simp at this;omega) (by simp) 1 rfl _ (by rfl) _ rfl).mono ?_);rintro e w4 ⟨rfl,hp,hk⟩;have HX4:=hid (Bx.kp HX3.out hk (by omega) (by decide));have HP4:=hid hp
 have HW4:=hid (HW3.out.trans hk);clear HX3 HP3 HW3 hp hk;clear e0 e1 e2;go_wp2
 go_end0
 exact⟨rfl,by simpa using HP4.out,HW4.out⟩
end
section
open Tr (Bx aa bt eH Ints)
theorem sK:∀(xs:List (List UInt8)) (x:List UInt8),fD (xs++[x])=fD xs++(if xs=[] then [] else [44,32])++x
 | [],x=>rfl
 | [y],x=>by simp[fD]
 |y :: z :: r,x=>by
  have ih:=sK (z :: r) x;show y++[44,32]++fD (z :: r++[x])=_;rw[ih];simp[fD]
theorem uP:∀(xs:List (List UInt8)) (i:Nat),(fD (xs.take i)).length<=(fD xs).length
 | [],i=>by simp
 | [x],0=>by simp[fD]
 | [x],i+1=>by simp[fD]
 |x :: y :: r,0=>by simp[fD]
 |x :: y :: r,1=>by simp[fD]
 |x :: y :: r,i+2=>by
  have ih:=uP (y :: r) (i+1);have e:fD ((x :: y :: r).take (i+2))=x++[44,32]++fD ((y :: r).take (i+1)):=by simp[fD]
  rw[e];show _<=(x++[44,32]++fD (y :: r)).length;simp only[List.length_append];omega
theorem Eg {B:Nat}(A:Option Addr)(n c b:Nat)(d d2:Int)(S:Option Addr)(m cc:Nat)(ks:List Int)(tx:Int->List UInt8)(t:List UInt8)(w:World)(h:Pg B b t w)(hm:m=ks.length)(hm2:m<=100000)(hK:∀w',Kp B b w w'->Ints w' S ks)
  (hi:∀k ∈ ks,∀t' w',Kp B b w w'->Pg B b t' w'->t'.length+(tx k).length<=140737488355328->Calls Tryz.prog 66 #[PV A n c b d2,.int .i64 k] w' (aK B b (t'++tx k) (.tuple #[]) w'))
  (hl:t.length+(nP (ks.map tx)).length<=140737488355328):Calls Tryz.prog 192 #[PV A n c b d,.slice S m cc,.func (.func 66) #[PV A n c b d2] #[]] w (aK B b (t++nP (ks.map tx)) (.tuple #[]) w):=by
 unfold nP at hl |-;have hbw:=h.bw;have hbl:=h.lt;have HK:=hid hK;have HM:=hid hm;have HI:=hid hi;have HL:=hid hl;have HX0:=hid (Bx.new w 73 [.slice A n c,.func (.func 117) #[.pointer (some ⟨b,0,none⟩)] #[],.int .i64 d]);have HP0:=hid (h.alloc (.cells #[.slice A n c,.func (.func 117) #[.pointer (some ⟨b,0,none⟩)] #[],.int .i64 d] 73));have HW0:=hid ((Kp.refl B b w).alloc hbw (.cells #[.slice A n c,.func (.func 117) #[.pointer (some ⟨b,0,none⟩)] #[],.int .i64 d] 73));unfold PV at HI;unfold PV;clear h hK hm hi hl;go_enter Tryz.func192,Tryz.ntmps192
 go_wp2_with (go_at_call 117;refine(aC B b t [[40]] _ HP0.out (by simp;have:=HL.out;simp at this;omega) (by simp) 1 rfl _ (by rfl) _ (by simp[World.size_alloc])).mono ?_);rintro e w1 ⟨rfl,hp,hk⟩;have HX1:=hid (Bx.kp HX0.out hk (by omega) (by decide));have HP1:=hid hp;have HW1:=hid (HW0.out.trans hk);clear HX0 HP0 HW0 hp hk;go_wp2
 go_loopg [6,7,14] m (λg _ _ a14 wr=>∃i:Nat,a14=.int .i64 (i:Int)/\i<=m/\g=m-i/\Pg B b (t++[40]++fD ((ks.map tx).take i)) wr/\Kp B b w wr/\Bx wr w.heap.size 73 [.slice A n c,.func (.func 117) #[.pointer (some ⟨b,0,none⟩)] #[],.int .i64 d])
 case atStart=>exact⟨0,rfl,Nat.zero_le _,rfl,by simpa [fD]using HP1.out,HW1.out,HX1.out⟩
 case round=>
  obtain⟨i,rfl,him,rfl,hp,hk,hx⟩:=hrel;have HP2:=hid hp;have HW2:=hid hk;have HX2:=hid hx;have e1:=(hx.cell 1).trans rfl;by_cases hlt:i<m
  ·have hlz:(i:Int)<(m:Int):=by omega
   have hik:i<ks.length:=by rw[<- HM.out];exact hlt
   obtain⟨bS,oS,rfl,hbS,hcS⟩:=HK.out wr hk (by omega);have cS:=hcS i hik;have him2:i<(ks.map tx).length:=by rw[List.length_map];exact hik
   have hsn:fD ((ks.map tx).take (i+1))=fD ((ks.map tx).take i)++(if (ks.map tx).take i=[] then [] else [44,32])++tx ks[i]:=by
    rw[List.take_succ_eq_append_getElem him2,sK,List.getElem_map]
   have hcl:=uP (ks.map tx) (i+1);have HC:=hid (HI.out ks[i] (List.getElem_mem hik));generalize ks[i]=k at *
   by_cases h0:i=0
   ·subst h0;rw[Nat.add_zero]at cS;rw[List.take_zero,if_pos rfl]at hsn;have HS:=hid hsn;have hle:t.length+1+(tx k).length<=140737488355328:=by
     have:=HL.out;rw[hsn]at hcl;simp[fD]at this hcl;omega
    clear hsn hcl hp hk hx hcS him2;go_wp2_with (go_at_call 66;refine(HC.out _ _ HW2.out HP2.out (by simp[fD];omega)).mono ?_);rintro e w2 ⟨rfl,hp3,hk3⟩;have HX3:=hid (Bx.kp HX2.out hk3 (by omega) (by decide));have HP3:=hid hp3;have HW3:=hid (HW2.out.trans hk3);clear hp3 hk3 e1 cS;go_wp2
    go_roundg (m-(0+1))
    case measure=>go_light;omega
    case rel=>
     go_light
     exact⟨1,by go_num,by omega,rfl,by have:=HP3.out;rw[show(1:Nat)=0+1 from rfl,HS.out];simpa [fD]using this,HW3.out,HX3.out⟩
   ·have hiz:(0:Int)<(i:Int):=by omega
    have hne:¬(ks.map tx).take i=[]:=by
     intro q;have:=congrArg List.length q;rw[List.length_take,List.length_nil]at this;omega
    rw[if_neg hne]at hsn;have HS:=hid hsn;have hle:t.length+1+(fD ((ks.map tx).take i)).length+2+(tx k).length<=140737488355328:=by
     have:=HL.out;rw[hsn]at hcl;simp only[List.length_append,List.length_cons,List.length_nil]at this hcl;omega
    clear hsn hcl hp hk hx hcS him2 hne;go_wp2_with (go_at_call 117;refine(aC B b _ [[44,32]] _ HP2.out (by simp;omega) (by simp) 1 rfl _ (by rfl) _ rfl).mono ?_);rintro e w2 ⟨rfl,hp3,hk3⟩;have HX3:=hid (Bx.kp HX2.out hk3 (by omega) (by decide));have HP3:=hid hp3;have HW3:=hid (HW2.out.trans hk3);clear hp3 hk3 e1 cS;go_wp2_with (go_at_call 66;refine(HC.out _ _ HW3.out HP3.out (by simp;omega)).mono ?_);rintro e w3 ⟨rfl,hp4,hk4⟩;have HX4:=hid (Bx.kp HX3.out hk4 (by omega) (by decide));have HP4:=hid hp4;have HW4:=hid (HW3.out.trans hk4);clear hp4 hk4;go_wp2
    go_roundg (m-(i+1))
    case measure=>go_light;omega
    case rel=>
     go_light
     exact⟨i+1,by go_num,by omega,rfl,by have:=HP4.out;rw[HS.out];simpa using this,HW4.out,HX4.out⟩
  ·obtain rfl:i=m:=by omega
   have hlz:¬(i:Int)<(i:Int):=by omega
   have ht:(ks.map tx).take i=ks.map tx:=List.take_of_length_le (by rw[List.length_map];have:=HM.out;omega);rw[ht]at hp;have HP3:=hid hp;clear hp hk hx ht HP2;go_wp2_with (go_at_call 117;refine(aC B b _ [[41]] _ HP3.out (by simp;have:=HL.out;simp at this;omega) (by simp) 1 rfl _ (by rfl) _ rfl).mono ?_)
   first
   |rintro e w2 rfl hp4 hk4
   |(rintro e w2 ⟨rfl,q4⟩;obtain⟨hp4,hk4⟩:=q4)
   |(rintro e w2 ⟨rfl,q4⟩;intro hp4 hk4)
   have HP4:=hid hp4;have HW4:=hid (HW2.out.trans hk4);clear hp4 hk4 e1;go_wp2
   go_end0
   exact⟨rfl,by simpa using HP4.out,HW4.out⟩
theorem Bg {B:Nat}(A:Option Addr)(n c b:Nat)(d d2:Int)(S:Option Addr)(m cc:Nat)(ks:List Int)(tx:Int->List UInt8)(t:List UInt8)(w:World)(h:Pg B b t w)(hm:m=ks.length)(hm2:m<=100000)(hK:∀w',Kp B b w w'->Ints w' S ks)
  (hi:∀k ∈ ks,∀t' w',Kp B b w w'->Pg B b t' w'->t'.length+(tx k).length<=140737488355328->Calls Tryz.prog 191 #[PV A n c b d2,.int .i64 k] w' (aK B b (t'++tx k) (.tuple #[]) w'))
  (hl:t.length+(nP (ks.map tx)).length<=140737488355328):Calls Tryz.prog 192 #[PV A n c b d,.slice S m cc,.func (.func 191) #[PV A n c b d2] #[]] w (aK B b (t++nP (ks.map tx)) (.tuple #[]) w):=by
 unfold nP at hl |-;have hbw:=h.bw;have hbl:=h.lt;have HK:=hid hK;have HM:=hid hm;have HI:=hid hi;have HL:=hid hl;have HX0:=hid (Bx.new w 73 [.slice A n c,.func (.func 117) #[.pointer (some ⟨b,0,none⟩)] #[],.int .i64 d]);have HP0:=hid (h.alloc (.cells #[.slice A n c,.func (.func 117) #[.pointer (some ⟨b,0,none⟩)] #[],.int .i64 d] 73));have HW0:=hid ((Kp.refl B b w).alloc hbw (.cells #[.slice A n c,.func (.func 117) #[.pointer (some ⟨b,0,none⟩)] #[],.int .i64 d] 73));unfold PV at HI;unfold PV;clear h hK hm hi hl;go_enter Tryz.func192,Tryz.ntmps192
 go_wp2_with (go_at_call 117;refine(aC B b t [[40]] _ HP0.out (by simp;have:=HL.out;simp at this;omega) (by simp) 1 rfl _ (by rfl) _ (by simp[World.size_alloc])).mono ?_);rintro e w1 ⟨rfl,hp,hk⟩;have HX1:=hid (Bx.kp HX0.out hk (by omega) (by decide));have HP1:=hid hp;have HW1:=hid (HW0.out.trans hk);clear HX0 HP0 HW0 hp hk;go_wp2
 go_loopg [6,7,14] m (λg _ _ a14 wr=>∃i:Nat,a14=.int .i64 (i:Int)/\i<=m/\g=m-i/\Pg B b (t++[40]++fD ((ks.map tx).take i)) wr/\Kp B b w wr/\Bx wr w.heap.size 73 [.slice A n c,.func (.func 117) #[.pointer (some ⟨b,0,none⟩)] #[],.int .i64 d])
 case atStart=>exact⟨0,rfl,Nat.zero_le _,rfl,by simpa [fD]using HP1.out,HW1.out,HX1.out⟩
 case round=>
  obtain⟨i,rfl,him,rfl,hp,hk,hx⟩:=hrel;have HP2:=hid hp;have HW2:=hid hk;have HX2:=hid hx;have e1:=(hx.cell 1).trans rfl;by_cases hlt:i<m
  ·have hlz:(i:Int)<(m:Int):=by omega
   have hik:i<ks.length:=by rw[<- HM.out];exact hlt
   obtain⟨bS,oS,rfl,hbS,hcS⟩:=HK.out wr hk (by omega);have cS:=hcS i hik;have him2:i<(ks.map tx).length:=by rw[List.length_map];exact hik
   have hsn:fD ((ks.map tx).take (i+1))=fD ((ks.map tx).take i)++(if (ks.map tx).take i=[] then [] else [44,32])++tx ks[i]:=by
    rw[List.take_succ_eq_append_getElem him2,sK,List.getElem_map]
   have hcl:=uP (ks.map tx) (i+1);have HC:=hid (HI.out ks[i] (List.getElem_mem hik));generalize ks[i]=k at *
   by_cases h0:i=0
   ·subst h0;rw[Nat.add_zero]at cS;rw[List.take_zero,if_pos rfl]at hsn;have HS:=hid hsn;have hle:t.length+1+(tx k).length<=140737488355328:=by
     have:=HL.out;rw[hsn]at hcl;simp[fD]at this hcl;omega
    clear hsn hcl hp hk hx hcS him2;go_wp2_with (go_at_call 191;refine(HC.out _ _ HW2.out HP2.out (by simp[fD];omega)).mono ?_);rintro e w2 ⟨rfl,hp3,hk3⟩;have HX3:=hid (Bx.kp HX2.out hk3 (by omega) (by decide));have HP3:=hid hp3;have HW3:=hid (HW2.out.trans hk3);clear hp3 hk3 e1 cS;go_wp2
    go_roundg (m-(0+1))
    case measure=>go_light;omega
    case rel=>
     go_light
     exact⟨1,by go_num,by omega,rfl,by have:=HP3.out;rw[show(1:Nat)=0+1 from rfl,HS.out];simpa [fD]using this,HW3.out,HX3.out⟩
   ·have hiz:(0:Int)<(i:Int):=by omega
    have hne:¬(ks.map tx).take i=[]:=by
     intro q;have:=congrArg List.length q;rw[List.length_take,List.length_nil]at this;omega
    rw[if_neg hne]at hsn;have HS:=hid hsn;have hle:t.length+1+(fD ((ks.map tx).take i)).length+2+(tx k).length<=140737488355328:=by
     have:=HL.out;rw[hsn]at hcl;simp only[List.length_append,List.length_cons,List.length_nil]at this hcl;omega
    clear hsn hcl hp hk hx hcS him2 hne;go_wp2_with (go_at_call 117;refine(aC B b _ [[44,32]] _ HP2.out (by simp;omega) (by simp) 1 rfl _ (by rfl) _ rfl).mono ?_);rintro e w2 ⟨rfl,hp3,hk3⟩;have HX3:=hid (Bx.kp HX2.out hk3 (by omega) (by decide));have HP3:=hid hp3;have HW3:=hid (HW2.out.trans hk3);clear hp3 hk3 e1 cS;go_wp2_with (go_at_call 191;refine(HC.out _ _ HW3.out HP3.out (by simp;omega)).mono ?_);rintro e w3 ⟨rfl,hp4,hk4⟩;have HX4:=hid (Bx.kp HX3.out hk4 (by omega) (by decide));have HP4:=hid hp4;have HW4:=hid (HW3.out.trans hk4);clear hp4 hk4;go_wp2
    go_roundg (m-(i+1))
    case measure=>go_light;omega
    case rel=>
     go_light
     exact⟨i+1,by go_num,by omega,rfl,by have:=HP4.out;rw[HS.out];simpa using this,HW4.out,HX4.out⟩
  ·obtain rfl:i=m:=by omega
   have hlz:¬(i:Int)<(i:Int):=by omega
   have ht:(ks.map tx).take i=ks.map tx:=List.take_of_length_le (by rw[List.length_map];have:=HM.out;omega);rw[ht]at hp;have HP3:=hid hp;clear hp hk hx ht HP2;go_wp2_with (go_at_call 117;refine(aC B b _ [[41]] _ HP3.out (by simp;have:=HL.out;simp at this;omega) (by simp) 1 rfl _ (by rfl) _ rfl).mono ?_)
   first
   |rintro e w2 rfl hp4 hk4
   |(rintro e w2 ⟨rfl,q4⟩;obtain⟨hp4,hk4⟩:=q4)
   |(rintro e w2 ⟨rfl,q4⟩;intro hp4 hk4)
   have HP4:=hid hp4;have HW4:=hid (HW2.out.trans hk4);clear hp4 hk4 e1;go_wp2
   go_end0
   exact⟨rfl,by simpa using HP4.out,HW4.out⟩
end
section
open Tr (Bx aa bt eH Ints)
theorem yf (A:Option Addr)(n c:Nat)(r:Int)(p:Int)(y:List UInt8)(w w0:World)(hw0:w0=w.alloc (.cells #[.slice A n c,.int .i64 r] 25))(hy:y≠[])
  (hway:∀w',Below w0.heap.size w0 w'->Pg w0.heap.size w0.heap.size [] w'->Calls Tryz.prog 66 #[PV A n c w0.heap.size 0,.int .i64 p] w' (aK w0.heap.size w0.heap.size y (.tuple #[]) w')) :
  Calls Tryz.prog 60 #[.agg #[.slice A n c,.int .i64 r],.int .i64 p,.func (.func 66) #[] #[]] w λe w'=>e=.returned (.string (lZ y))/\Below w.heap.size w w':=by
 have hsz:w0.heap.size=w.heap.size+1:=by rw[hw0,World.size_alloc]
 have hX:=(Bx.new w 25 [.slice A n c,.int .i64 r]);have hXp:=hX.alloc (.cells #[.pointer none,.slice none 0 0] 118);have hP:=FD w0;have hbp:=aa w0 (.cells #[.pointer none,.slice none 0 0] 118);have HP0:=hid hP;have HC:=hid (hway _ hbp hP);have HB:=hid ((aa w (.cells #[.slice A n c,.int .i64 r] 25)));rw[hw0]at hbp;have HBP:=hid hbp;rw[hsz]at HC HP0;rw[hw0]at HC HP0;have e0:=(hXp.cell 0).trans rfl;have HS:=hid (λw' (q:Pg (w.heap.size+1) (w.heap.size+1) y w')=>wH (w.heap.size+1) (w.heap.size+1) y w' q hy);have HSZ:=hid hsz;unfold PV at HC;clear hway hw0 hX hXp hP hbp hy hsz;go_enter Tryz.func60,Tryz.ntmps60
 go_wp2_with (go_at_call 66;refine HC.out.mono ?_);rintro e w1 ⟨rfl,hp,hk⟩;have HC2:=hid (HS.out w1 hp);have HK:=hid hk;clear hp hk e0;go_wp2_with (go_at_call 118;refine HC2.out.mono ?_);rintro e w2 ⟨rfl,hp2,hk2⟩;have HK2:=hid hk2;clear hp2 hk2;go_wp2
 go_ret
 refine⟨rfl,bt HB.out ?_⟩;have h1:=HBP.out;have h2:=HK.out.1;have h3:=HK2.out.1;rw[show(w.alloc (.cells #[.slice A n c,.int .i64 r] 25)).heap.size=w.heap.size+1 from World.size_alloc _ _]at h1 |-;exact(h1.trans h2).trans h3
end
section
open Tr (Bx aa bt eH Ints)
theorem Eh {B:Nat}(A:Option Addr)(n c b:Nat)(d kd nn pl:Int)(tx:ByteArray)(S:Option Addr)(m cc:Nat)(ks:List Int)(ex:Int->List UInt8)(t:List UInt8)(w:World)(h:Pg B b t w)(hm:m=ks.length)(hm2:m<=100000)(hK:∀w',Kp B b w w'->Ints w' S ks)
  (hi:∀k ∈ ks,∀t' w',Kp B b w w'->Pg B b t' w'->t'.length+(ex k).length<=140737488355328->Calls Tryz.prog 66 #[PV A n c b d,.int .i64 k] w' (aK B b (t'++ex k) (.tuple #[]) w'))
  (hl:t.length+([114,101,116,117,114,110]++(ks.map λk=>[32]++ex k).flatten).length<=140737488355328):Calls Tryz.prog 134 #[PV A n c b d,.agg #[.int .i64 kd,.int .i64 nn,.int .i64 pl,.string tx,.slice S m cc]] w (aK B b (t++([114,101,116,117,114,110]++(ks.map λk=>[32]++ex k).flatten)) (.tuple #[]) w):=by
 have hbw:=h.bw;have hbl:=h.lt;obtain⟨ys,hys⟩:∃ys,ys=ks.map λk=>[32]++ex k:=⟨_,rfl⟩
 rw[<- hys]at hl |-;have HK:=hid hK;have HM:=hid hm;have HI:=hid hi;have HL:=hid hl;have HY:=hid hys;have HX0:=hid (jK w [.slice A n c,.func (.func 117) #[.pointer (some ⟨b,0,none⟩)] #[],.int .i64 d] [.int .i64 kd,.int .i64 nn,.int .i64 pl,.string tx,.slice S m cc]);have HP0:=hid ((h.alloc (.cells #[.slice A n c,.func (.func 117) #[.pointer (some ⟨b,0,none⟩)] #[],.int .i64 d] 73)).alloc (.cells #[.int .i64 kd,.int .i64 nn,.int .i64 pl,.string tx,.slice S m cc] 37));have HW0:=hid (((Kp.refl B b w).alloc hbw (.cells #[.slice A n c,.func (.func 117) #[.pointer (some ⟨b,0,none⟩)] #[],.int .i64 d] 73)).alloc (by rw[World.size_alloc];omega) (.cells #[.int .i64 kd,.int .i64 nn,.int .i64 pl,.string tx,.slice S m cc] 37));unfold PV at HI;unfold PV;clear h hK hm hi hl hys;go_enter Tryz.func134,Tryz.ntmps134
 go_wp2_with (go_at_call 117;refine(aC B b t [[114,101,116,117,114,110]] _ HP0.out (by have:=HL.out;simp only[List.length_append,List.length_cons,List.length_nil,List.flatten_cons,List.flatten_nil]at this |-;omega) (by simp) 1 rfl _ (by rfl) _ (by simp[World.size_alloc])).mono ?_);rintro e w1 ⟨rfl,hp,hk⟩;have hx:=HX0.out.kp hk (by omega) (by omega);have HX1:=hid hx;have HP1:=hid hp;have HW1:=hid (HW0.out.trans hk);have n4:=(hx.2.cell 4).trans rfl;clear HX0 HP0 HW0 hp hk hx;go_wp2;clear n4
 go_loopg [5,13] m (λg _ a13 wr=>∃i:Nat,a13=.int .i64 (i:Int)/\i<=m/\g=m-i/\Pg B b (t++[114,101,116,117,114,110]++(ys.take i).flatten) wr/\Kp B b w wr/\Bx wr w.heap.size 73 [.slice A n c,.func (.func 117) #[.pointer (some ⟨b,0,none⟩)] #[],.int .i64 d])
 case atStart=>exact⟨0,rfl,Nat.zero_le _,rfl,by simpa using HP1.out,HW1.out,HX1.out.1⟩
 case round=>
  obtain⟨i,rfl,him,rfl,hp,hk,hx⟩:=hrel;have HP2:=hid hp;have HW2:=hid hk;have HX2:=hid hx;have e1:=(hx.cell 1).trans rfl;by_cases hlt:i<m
  ·have hlz:(i:Int)<(m:Int):=by omega
   have hik:i<ks.length:=by rw[<- HM.out];exact hlt
   obtain⟨bS,oS,rfl,hbS,hcS⟩:=HK.out wr hk (by omega);have cS:=hcS i hik;have hiy:i<ys.length:=by rw[HY.out,List.length_map];exact hik
   have hsn:(ys.take (i+1)).flatten=(ys.take i).flatten++([32]++ex ks[i]):=by
    rw[List.take_succ_eq_append_getElem hiy,List.flatten_append];simp[HY.out]
   have hfl:=qY ys i hiy;have hyi:ys[i].length=1+(ex ks[i]).length:=by simp[HY.out];omega
   have HC:=hid (HI.out ks[i] (List.getElem_mem hik));generalize ks[i]=k at *
   have hle:t.length+6+(ys.take i).flatten.length+1+(ex k).length<=140737488355328:=by
    have:=HL.out;simp only[List.length_append,List.length_cons,List.length_nil]at this;omega
   have HS:=hid hsn;clear hsn hfl hyi hp hk hx hcS hiy;go_wp2_with (go_at_call 117;refine(aC B b _ [[32]] _ HP2.out (by simp only[List.length_append,List.length_cons,List.length_nil,List.flatten_cons,List.flatten_nil];omega) (by simp) 1 rfl _ (by rfl) _ rfl).mono ?_);rintro e w2 ⟨rfl,hp3,hk3⟩;have hx3:=Bx.kp HX2.out hk3 (by omega) (by decide);have HX3:=hid hx3;have HP3:=hid hp3;have HW3:=hid (HW2.out.trans hk3);clear e1;have e0:=(hx3.cell 0).trans rfl;have e1:=(hx3.cell 1).trans rfl;have e2:=(hx3.cell 2).trans rfl;clear hp3 hk3 cS hx3;go_wp2_with (go_at_call 66;refine(HC.out _ _ HW3.out HP3.out (by simp only[List.length_append,List.length_cons,List.length_nil,List.flatten_cons,List.flatten_nil];omega)).mono ?_);rintro e w3 ⟨rfl,hp4,hk4⟩;have HX4:=hid (Bx.kp HX3.out hk4 (by omega) (by decide));have HP4:=hid hp4;have HW4:=hid (HW3.out.trans hk4);clear hp4 hk4 e0 e1 e2;go_wp2
   go_roundg (m-(i+1))
   case measure=>go_light;omega
   case rel=>
    go_light
    exact⟨i+1,by go_num,by omega,rfl,by have:=HP4.out;rw[HS.out];simpa using this,HW4.out,HX4.out⟩
  ·obtain rfl:i=m:=by omega
   have hlz:¬(i:Int)<(i:Int):=by omega
   have ht:ys.take i=ys:=List.take_of_length_le (by rw[HY.out,List.length_map];have:=HM.out;omega);rw[ht]at hp;have HP3:=hid hp;clear hp hk hx ht HP2 e1;go_wp2
   go_end0
   exact⟨rfl,by simpa using HP3.out,HW2.out⟩
end
end Go.Proofs.YteecfjhjllajlaaGreatDoor
