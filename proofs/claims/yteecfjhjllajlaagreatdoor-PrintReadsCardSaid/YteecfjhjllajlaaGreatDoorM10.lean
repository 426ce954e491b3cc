/- PROVED: Xl. No more condition. -/
import Derived.Test.YteecfjhjllajlaaGreatDoorM09
namespace Go.Proofs.YteecfjhjllajlaaGreatDoor
open Go.Lib (hid)
section
set_option maxHeartbeats 2500000
set_option maxRecDepth 100000
open Go Go.RowKit
open Tr (Bx aa bt eH Ints)
theorem Sk {w0:World}{A:Option Addr}{l:List Tr.Nd}{n c b f:Nat}(hx:nR w0 A l n)(hr:lH w0 A l n c b f)(d:Int)(p k:Nat)(t:List UInt8)(w:World)(hp:p<n)(hk:(ag l p).kd=7)(hk0:(ag l p).ks[0]?=some (k:Int))(hkf:k<f)(hkn:k<n)(hke:Tr.aI (ag l k).kd=true)
  (hb:Below w0.heap.size w0 w) (h:Pg w0.heap.size b t w) (hl:t.length+(eF l f p).length<=140737488355328):Calls Tryz.prog 72 #[PV A n c b d,.int .i64 (p:Int)] w (aK w0.heap.size b (t++eF l f p) (.tuple #[]) w):=by
 have hpl:p<l.length:=by rw[<- hx.len];exact hp
 have hkid:aL l p 0=(k:Int):=by unfold aL;rw[List.getD_eq_getElem?_getD,hk0];rfl
 have hex:eF l f p=(ag l p).tx.data.toList++[32,61,32]++bE l f k:=by simp[eF,hk,hkid,bu]
 rw[hex]at hl |-;clear hex hkid;obtain⟨bA,off,K,cK,rfl,hlt,c0,c1,c2,c3,c4,z5⟩:=aZ hx.nds hb p hpl;rw[<- aS hpl]at c0 c1 c2 c3 c4 z5;rw[hk]at c0;have hpz:(p:Int)<(n:Int):=by omega
 obtain⟨hnk,hk1⟩:=List.getElem?_eq_some_iff.1 hk0;obtain⟨bk,ok,rfl,hbk,hck0⟩:=z5 hnk;have hck:w0.cell? ⟨bk,ok,none⟩=some (.int .i64 (k:Int)):=(hck0 0 hnk).trans (by rw[hk1]);have H:=hid h;have HB:=hid hb;have hbw:=h.bw;have hbl:=h.lt;have HL:=hid hl;have HO:=hid (λt' w' (q:Below w0.heap.size w0 w') (h':Pg w0.heap.size b t' w') (hl':t'.length+(bE l f k).length<=140737488355328)=>hr k d t' w' hkf hkn hke q h' hl');unfold PV at HO;unfold PV;clear hck0 hk0 hk1;generalize bE l f (k:Int)=y at *
 generalize (ag l p).n=nn at *
 generalize (ag l p).pl=pl at *
 generalize (ag l p).tx=tx at *
 generalize (ag l p).ks.length=nk at *
 have HX1:=hid (show SP w.heap.size (w.heap.size+1) [.slice (some ⟨bA,off,none⟩) n c,.func (.func 117) #[.pointer (some ⟨b,0,none⟩)] #[],.int .i64 d] [.int .i64 7,.int .i64 nn,.int .i64 pl,.string tx,.slice (some ⟨bk,ok,none⟩) nk cK] bk ok (k:Int) ((w.alloc (.cells #[.slice (some ⟨bA,off,none⟩) n c,.func (.func 117) #[.pointer (some ⟨b,0,none⟩)] #[],.int .i64 d] 73)).alloc (.cells #[.int .i64 7,.int .i64 nn,.int .i64 pl,.string tx,.slice (some ⟨bk,ok,none⟩) nk cK] 37)) by
  have b1:=Bx.new w 73 [.slice (some ⟨bA,off,none⟩) n c,.func (.func 117) #[.pointer (some ⟨b,0,none⟩)] #[],.int .i64 d]
  have b2:=Bx.new (w.alloc (.cells #[.slice (some ⟨bA,off,none⟩) n c,.func (.func 117) #[.pointer (some ⟨b,0,none⟩)] #[],.int .i64 d] 73)) 37 [.int .i64 7,.int .i64 nn,.int .i64 pl,.string tx,.slice (some ⟨bk,ok,none⟩) nk cK]
  have b3:=b1.alloc (.cells #[.int .i64 7,.int .i64 nn,.int .i64 pl,.string tx,.slice (some ⟨bk,ok,none⟩) nk cK] 37)
  rw[World.size_alloc]at b2
  refine⟨b3,b2,?_⟩
  have hb2:Below w0.heap.size w0 ((w.alloc (.cells #[.slice (some ⟨bA,off,none⟩) n c,.func (.func 117) #[.pointer (some ⟨b,0,none⟩)] #[],.int .i64 d] 73)).alloc (.cells #[.int .i64 7,.int .i64 nn,.int .i64 pl,.string tx,.slice (some ⟨bk,ok,none⟩) nk cK] 37)):=(HB.out.alloc hbw _).alloc (by rw[World.size_alloc];omega) _
  exact(hb2.cell (p:=⟨bk,ok,none⟩) hbk).trans hck)
 have HW1:=hid (((Kp.refl w0.heap.size b w).alloc hbw (.cells #[.slice (some ⟨bA,off,none⟩) n c,.func (.func 117) #[.pointer (some ⟨b,0,none⟩)] #[],.int .i64 d] 73)).alloc (by rw[World.size_alloc];omega) (.cells #[.int .i64 7,.int .i64 nn,.int .i64 pl,.string tx,.slice (some ⟨bk,ok,none⟩) nk cK] 37));clear hk hr hx hb h hl hpl hke hck;go_enter Tryz.func72,Tryz.ntmps72
 go_wp2_with (go_at_call 117;refine(aC w0.heap.size b t [tx.data.toList,[32,61,32]] _ ((H.out.alloc _).alloc _) (by simp;have:=HL.out;simp at this;omega) (by simp) 2 rfl _ (by simp[iq];try rfl) _ (by simp[World.size_alloc])).mono ?_);rintro e w1 ⟨rfl,hp1,hk1⟩;have HS2:=hid (HX1.out.kp hk1 (by omega) (by omega) hbk);have HP2:=hid hp1;have HW2:=hid (HW1.out.trans hk1);clear HX1 HW1 hp1 hk1
 go_upto_region 5 with(fail)
 obtain⟨W5,hW5⟩:∃W5:World,{w1 with drawn:=w1.drawn+1}=W5:=⟨_,rfl⟩;have hkd:Kp w0.heap.size b w1 W5:=by rw[<- hW5];exact⟨Below.drew (Below.refl _ _),(Lib.OthersKept.refl _ _ w1).drew⟩
 have hS:SP w.heap.size (w.heap.size+1) [.slice (some ⟨bA,off,none⟩) n c,.func (.func 117) #[.pointer (some ⟨b,0,none⟩)] #[],.int .i64 d] [.int .i64 7,.int .i64 nn,.int .i64 pl,.string tx,.slice (some ⟨bk,ok,none⟩) nk cK] bk ok (k:Int) W5:=HS2.out.kp hkd (by omega) (by omega) hbk;have hP5:Pg w0.heap.size b (t++([tx.data.toList,[32,61,32]]:List (List UInt8)).flatten) W5:=by rw[<- hW5];exact HP2.out
 have hw5:=HW2.out.trans hkd;refine wp_region_held (S:=SP w.heap.size (w.heap.size+1) [.slice (some ⟨bA,off,none⟩) n c,.func (.func 117) #[.pointer (some ⟨b,0,none⟩)] #[],.int .i64 d] [.int .i64 7,.int .i64 nn,.int .i64 pl,.string tx,.slice (some ⟨bk,ok,none⟩) nk cK] bk ok (k:Int)) (by kernel_rfl) ?_;rw[hW5];clear hW5;refine aG 0 (.agg #[.slice (some ⟨bA,off,none⟩) n c,.func (.func 117) #[.pointer (some ⟨b,0,none⟩)] #[],.int .i64 d]) (by kernel_rfl) rfl rfl (λ_ _ _ h=>h) rfl (ak rfl rfl (λw' q=>aV ((q.1.cell 0).trans rfl) ((q.1.cell 1).trans rfl) ((q.1.cell 2).trans rfl))) hS ?_;simp only[ap];refine aG 1 (.pointer (some ⟨w.heap.size+1,4,none⟩)) (by kernel_rfl) rfl rfl (λ_ _ _ h=>h) rfl (ay rfl rfl (aD _)) hS ?_;simp only[ap];refine aG 2 (.slice (some ⟨bk,ok,none⟩) nk cK) (by kernel_rfl) rfl rfl (λ_ _ _ h=>h) rfl (ak rfl rfl (λw' q=>aH ((q.2.1.cell 4).trans rfl))) hS ?_;simp only[ap];refine aG 3 (.pointer (some ⟨bk,ok+0,none⟩)) (by kernel_rfl) rfl rfl (λ_ _ _ h=>h) rfl (bq rfl rfl rfl (λw=>aN bk ok nk cK 0 hnk w)) hS ?_;simp only[ap];refine aG 4 (.int .i64 (k:Int)) (by kernel_rfl) rfl rfl (λ_ _ _ h=>h) rfl (ak rfl rfl (λw' q=>aB q.2.2)) hS ?_;simp only[ap]
 refine aQ 5 ({dst:=some 25,op:=Op.call {callee:=Callee.value (Operand.func 66),args := #[Operand.tmp 20,Operand.tmp 24],argTypes := #[73,3]},type:=0,pos := "printer.go:132",after := #[{on:=0,ground:=Ground.data},{on:=4,ground:=Ground.data}],guard:=none}:Oper) (args := #[.agg #[.slice (some ⟨bA,off,none⟩) n c,.func (.func 117) #[.pointer (some ⟨b,0,none⟩)] #[],.int .i64 d],.int .i64 (k:Int)]) nZ rfl rfl (by kernel_rfl) rfl rfl (HO.out _ _ (Kp.w0 HB.out hw5) hP5 (by simp;have:=HL.out;simp at this;omega)) ?_;rintro e w2 ⟨rfl,hp2,hk2⟩;have hS2:=hS.kp hk2 (by omega) (by omega) hbk;refine .inr ⟨_,rfl,hS2,?_⟩;simp only[ap];refine wpAnyH_done (by kernel_rfl) ?_ _;have HP3:=hid hp2;have HW3:=hid (hw5.trans hk2);clear hS hP5 hw5 hkd HS2 HP2 HW2 hp2 hk2 hS2;go_wp2
 go_end0
 exact⟨rfl,by simpa using HP3.out,HW3.out⟩
theorem QL {w0:World}{A:Option Addr}{l:List Tr.Nd}{n c b f:Nat}(hx:nR w0 A l n)(hr:lH w0 A l n c b f)(d:Int)(p k:Nat)(t:List UInt8)(w:World)(hp:p<n)(hk:(ag l p).kd=11)(hk0:(ag l p).ks[0]?=some (k:Int))(hkf:k<f)(hkn:k<n)(hke:Tr.aI (ag l k).kd=true)
  (hb:Below w0.heap.size w0 w) (h:Pg w0.heap.size b t w) (hl:t.length+(eF l f p).length<=140737488355328):Calls Tryz.prog 72 #[PV A n c b d,.int .i64 (p:Int)] w (aK w0.heap.size b (t++eF l f p) (.tuple #[]) w):=by
 have hpl:p<l.length:=by rw[<- hx.len];exact hp
 have hkid:aL l p 0=(k:Int):=by unfold aL;rw[List.getD_eq_getElem?_getD,hk0];rfl
 have hex:eF l f p=[105,102,32]++bE l f k:=by simp[eF,hk,hkid]
 rw[hex]at hl |-;clear hex hkid;obtain⟨bA,off,K,cK,rfl,hlt,c0,c1,c2,c3,c4,z5⟩:=aZ hx.nds hb p hpl;rw[<- aS hpl]at c0 c1 c2 c3 c4 z5;rw[hk]at c0;have hpz:(p:Int)<(n:Int):=by omega
 obtain⟨hnk,hk1⟩:=List.getElem?_eq_some_iff.1 hk0;obtain⟨bk,ok,rfl,hbk,hck0⟩:=z5 hnk;have hck:w0.cell? ⟨bk,ok,none⟩=some (.int .i64 (k:Int)):=(hck0 0 hnk).trans (by rw[hk1]);have H:=hid h;have HB:=hid hb;have hbw:=h.bw;have hbl:=h.lt;have HL:=hid hl;have HO:=hid (λt' w' (q:Below w0.heap.size w0 w') (h':Pg w0.heap.size b t' w') (hl':t'.length+(bE l f k).length<=140737488355328)=>hr k d t' w' hkf hkn hke q h' hl');unfold PV at HO;unfold PV;clear hck0 hk0 hk1;generalize bE l f (k:Int)=y at *
 generalize (ag l p).n=nn at *
 generalize (ag l p).pl=pl at *
 generalize (ag l p).tx=tx at *
 generalize (ag l p).ks.length=nk at *
 have HX1:=hid (show SP w.heap.size (w.heap.size+1) [.slice (some ⟨bA,off,none⟩) n c,.func (.func 117) #[.pointer (some ⟨b,0,none⟩)] #[],.int .i64 d] [.int .i64 11,.int .i64 nn,.int .i64 pl,.string tx,.slice (some ⟨bk,ok,none⟩) nk cK] bk ok (k:Int) ((w.alloc (.cells #[.slice (some ⟨bA,off,none⟩) n c,.func (.func 117) #[.pointer (some ⟨b,0,none⟩)] #[],.int .i64 d] 73)).alloc (.cells #[.int .i64 11,.int .i64 nn,.int .i64 pl,.string tx,.slice (some ⟨bk,ok,none⟩) nk cK] 37)) by
  have b1:=Bx.new w 73 [.slice (some ⟨bA,off,none⟩) n c,.func (.func 117) #[.pointer (some ⟨b,0,none⟩)] #[],.int .i64 d]
  have b2:=Bx.new (w.alloc (.cells #[.slice (some ⟨bA,off,none⟩) n c,.func (.func 117) #[.pointer (some ⟨b,0,none⟩)] #[],.int .i64 d] 73)) 37 [.int .i64 11,.int .i64 nn,.int .i64 pl,.string tx,.slice (some ⟨bk,ok,none⟩) nk cK]
  have b3:=b1.alloc (.cells #[.int .i64 11,.int .i64 nn,.int .i64 pl,.string tx,.slice (some ⟨bk,ok,none⟩) nk cK] 37)
  rw[World.size_alloc]at b2
  refine⟨b3,b2,?_⟩
  have hb2:Below w0.heap.size w0 ((w.alloc (.cells #[.slice (some ⟨bA,off,none⟩) n c,.func (.func 117) #[.pointer (some ⟨b,0,none⟩)] #[],.int .i64 d] 73)).alloc (.cells #[.int .i64 11,.int .i64 nn,.int .i64 pl,.string tx,.slice (some ⟨bk,ok,none⟩) nk cK] 37)):=(HB.out.alloc hbw _).alloc (by rw[World.size_alloc];omega) _
  exact(hb2.cell (p:=⟨bk,ok,none⟩) hbk).trans hck)
 have HW1:=hid (((Kp.refl w0.heap.size b w).alloc hbw (.cells #[.slice (some ⟨bA,off,none⟩) n c,.func (.func 117) #[.pointer (some ⟨b,0,none⟩)] #[],.int .i64 d] 73)).alloc (by rw[World.size_alloc];omega) (.cells #[.int .i64 11,.int .i64 nn,.int .i64 pl,.string tx,.slice (some ⟨bk,ok,none⟩) nk cK] 37));clear hk hr hx hb h hl hpl hke hck;go_enter Tryz.func72,Tryz.ntmps72
 go_wp2_with (go_at_call 117;refine(aC w0.heap.size b t [[105,102,32]] _ ((H.out.alloc _).alloc _) (by simp;have:=HL.out;simp at this;omega) (by simp) 1 rfl _ (by rfl) _ (by simp[World.size_alloc])).mono ?_);rintro e w1 ⟨rfl,hp1,hk1⟩;have HS2:=hid (HX1.out.kp hk1 (by omega) (by omega) hbk);have HP2:=hid hp1;have HW2:=hid (HW1.out.trans hk1);clear HX1 HW1 hp1 hk1
 go_upto_region 17 with(fail)
 obtain⟨W5,hW5⟩:∃W5:World,{w1 with drawn:=w1.drawn+1}=W5:=⟨_,rfl⟩;have hkd:Kp w0.heap.size b w1 W5:=by rw[<- hW5];exact⟨Below.drew (Below.refl _ _),(Lib.OthersKept.refl _ _ w1).drew⟩
 have hS:SP w.heap.size (w.heap.size+1) [.slice (some ⟨bA,off,none⟩) n c,.func (.func 117) #[.pointer (some ⟨b,0,none⟩)] #[],.int .i64 d] [.int .i64 11,.int .i64 nn,.int .i64 pl,.string tx,.slice (some ⟨bk,ok,none⟩) nk cK] bk ok (k:Int) W5:=HS2.out.kp hkd (by omega) (by omega) hbk;have hP5:Pg w0.heap.size b (t++([[105,102,32]]:List (List UInt8)).flatten) W5:=by rw[<- hW5];exact HP2.out
 have hw5:=HW2.out.trans hkd;refine wp_region_held (S:=SP w.heap.size (w.heap.size+1) [.slice (some ⟨bA,off,none⟩) n c,.func (.func 117) #[.pointer (some ⟨b,0,none⟩)] #[],.int .i64 d] [.int .i64 11,.int .i64 nn,.int .i64 pl,.string tx,.slice (some ⟨bk,ok,none⟩) nk cK] bk ok (k:Int)) (by kernel_rfl) ?_;rw[hW5];clear hW5;refine aG 0 (.agg #[.slice (some ⟨bA,off,none⟩) n c,.func (.func 117) #[.pointer (some ⟨b,0,none⟩)] #[],.int .i64 d]) (by kernel_rfl) rfl rfl (λ_ _ _ h=>h) rfl (ak rfl rfl (λw' q=>aV ((q.1.cell 0).trans rfl) ((q.1.cell 1).trans rfl) ((q.1.cell 2).trans rfl))) hS ?_;simp only[ap];refine aG 1 (.pointer (some ⟨w.heap.size+1,4,none⟩)) (by kernel_rfl) rfl rfl (λ_ _ _ h=>h) rfl (ay rfl rfl (aD _)) hS ?_;simp only[ap];refine aG 2 (.slice (some ⟨bk,ok,none⟩) nk cK) (by kernel_rfl) rfl rfl (λ_ _ _ h=>h) rfl (ak rfl rfl (λw' q=>aH ((q.2.1.cell 4).trans rfl))) hS ?_;simp only[ap];refine aG 3 (.pointer (some ⟨bk,ok+0,none⟩)) (by kernel_rfl) rfl rfl (λ_ _ _ h=>h) rfl (bq rfl rfl rfl (λw=>aN bk ok nk cK 0 hnk w)) hS ?_;simp only[ap];refine aG 4 (.int .i64 (k:Int)) (by kernel_rfl) rfl rfl (λ_ _ _ h=>h) rfl (ak rfl rfl (λw' q=>aB q.2.2)) hS ?_;simp only[ap]
 refine aQ 5 ({dst:=some 90,op:=Op.call {callee:=Callee.value (Operand.func 66),args := #[Operand.tmp 85,Operand.tmp 89],argTypes := #[73,3]},type:=0,pos := "printer.go:144",after := #[{on:=0,ground:=Ground.data},{on:=4,ground:=Ground.data}],guard:=none}:Oper) (args := #[.agg #[.slice (some ⟨bA,off,none⟩) n c,.func (.func 117) #[.pointer (some ⟨b,0,none⟩)] #[],.int .i64 d],.int .i64 (k:Int)]) nZ rfl rfl (by kernel_rfl) rfl rfl (HO.out _ _ (Kp.w0 HB.out hw5) hP5 (by simp;have:=HL.out;simp at this;omega)) ?_;rintro e w2 ⟨rfl,hp2,hk2⟩;have hS2:=hS.kp hk2 (by omega) (by omega) hbk;refine .inr ⟨_,rfl,hS2,?_⟩;simp only[ap];refine wpAnyH_done (by kernel_rfl) ?_ _;have HP3:=hid hp2;have HW3:=hid (hw5.trans hk2);clear hS hP5 hw5 hkd HS2 HP2 HW2 hp2 hk2 hS2;go_wp2
 go_end0
 exact⟨rfl,by simpa using HP3.out,HW3.out⟩
theorem QM {w0:World}{A:Option Addr}{l:List Tr.Nd}{n c b f:Nat}(hx:nR w0 A l n)(hr:lH w0 A l n c b f)(d:Int)(p k:Nat)(t:List UInt8)(w:World)(hp:p<n)(hk:(ag l p).kd=12)(hk0:(ag l p).ks[0]?=some (k:Int))(hkf:k<f)(hkn:k<n)(hke:Tr.aI (ag l k).kd=true)
  (hb:Below w0.heap.size w0 w) (h:Pg w0.heap.size b t w) (hl:t.length+(eF l f p).length<=140737488355328):Calls Tryz.prog 72 #[PV A n c b d,.int .i64 (p:Int)] w (aK w0.heap.size b (t++eF l f p) (.tuple #[]) w):=by
 have hpl:p<l.length:=by rw[<- hx.len];exact hp
 have hkid:aL l p 0=(k:Int):=by unfold aL;rw[List.getD_eq_getElem?_getD,hk0];rfl
 have hex:eF l f p=[119,104,105,108,101,32]++bE l f k:=by simp[eF,hk,hkid]
 rw[hex]at hl |-;clear hex hkid;obtain⟨bA,off,K,cK,rfl,hlt,c0,c1,c2,c3,c4,z5⟩:=aZ hx.nds hb p hpl;rw[<- aS hpl]at c0 c1 c2 c3 c4 z5;rw[hk]at c0;have hpz:(p:Int)<(n:Int):=by omega
 obtain⟨hnk,hk1⟩:=List.getElem?_eq_some_iff.1 hk0;obtain⟨bk,ok,rfl,hbk,hck0⟩:=z5 hnk;have hck:w0.cell? ⟨bk,ok,none⟩=some (.int .i64 (k:Int)):=(hck0 0 hnk).trans (by rw[hk1]);have H:=hid h;have HB:=hid hb;have hbw:=h.bw;have hbl:=h.lt;have HL:=hid hl;have HO:=hid (λt' w' (q:Below w0.heap.size w0 w') (h':Pg w0.heap.size b t' w') (hl':t'.length+(bE l f k).length<=140737488355328)=>hr k d t' w' hkf hkn hke q h' hl');unfold PV at HO;unfold PV;clear hck0 hk0 hk1;generalize bE l f (k:Int)=y at *
 generalize (ag l p).n=nn at *
 generalize (ag l p).pl=pl at *
 generalize (ag l p).tx=tx at *
 generalize (ag l p).ks.length=nk at *
 have HX1:=hid (show SP w.heap.size (w.heap.size+1) [.slice (some ⟨bA,off,none⟩) n c,.func (.func 117) #[.pointer (some ⟨b,0,none⟩)] #[],.int .i64 d] [.int .i64 12,.int .i64 nn,.int .i64 pl,.string tx,.slice (some ⟨bk,ok,none⟩) nk cK] bk ok (k:Int) ((w.alloc (.cells #[.slice (some ⟨bA,off,none⟩) n c,.func (.func 117) #[.pointer (some ⟨b,0,none⟩)] #[],.int .i64 d] 73)).alloc (.cells #[.int .i64 12,.int .i64 nn,.int .i64 pl,.string tx,.slice (some ⟨bk,ok,none⟩) nk cK] 37)) by
  have b1:=Bx.new w 73 [.slice (some ⟨bA,off,none⟩) n c,.func (.func 117) #[.pointer (some ⟨b,0,none⟩)] #[],.int .i64 d]
  have b2:=Bx.new (w.alloc (.cells #[.slice (some ⟨bA,off,none⟩) n c,.func (.func 117) #[.pointer (some ⟨b,0,none⟩)] #[],.int .i64 d] 73)) 37 [.int .i64 12,.int .i64 nn,.int .i64 pl,.string tx,.slice (some ⟨bk,ok,none⟩) nk cK]
  have b3:=b1.alloc (.cells #[.int .i64 12,.int .i64 nn,.int .i64 pl,.string tx,.slice (some ⟨bk,ok,none⟩) nk cK] 37)
  rw[World.size_alloc]at b2
  refine⟨b3,b2,?_⟩
  have hb2:Below w0.heap.size w0 ((w.alloc (.cells #[.slice (some ⟨bA,off,none⟩) n c,.func (.func 117) #[.pointer (some ⟨b,0,none⟩)] #[],.int .i64 d] 73)).alloc (.cells #[.int .i64 12,.int .i64 nn,.int .i64 pl,.string tx,.slice (some ⟨bk,ok,none⟩) nk cK] 37)):=(HB.out.alloc hbw _).alloc (by rw[World.size_alloc];omega) _
  exact(hb2.cell (p:=⟨bk,ok,none⟩) hbk).trans hck)
 have HW1:=hid (((Kp.refl w0.heap.size b w).alloc hbw (.cells #[.slice (some ⟨bA,off,none⟩) n c,.func (.func 117) #[.pointer (some ⟨b,0,none⟩)] #[],.int .i64 d] 73)).alloc (by rw[World.size_alloc];omega) (.cells #[.int .i64 12,.int .i64 nn,.int .i64 pl,.string tx,.slice (some ⟨bk,ok,none⟩) nk cK] 37));clear hk hr hx hb h hl hpl hke hck;go_enter Tryz.func72,Tryz.ntmps72
 go_wp2_with (go_at_call 117;refine(aC w0.heap.size b t [[119,104,105,108,101,32]] _ ((H.out.alloc _).alloc _) (by simp;have:=HL.out;simp at this;omega) (by simp) 1 rfl _ (by rfl) _ (by simp[World.size_alloc])).mono ?_);rintro e w1 ⟨rfl,hp1,hk1⟩;have HS2:=hid (HX1.out.kp hk1 (by omega) (by omega) hbk);have HP2:=hid hp1;have HW2:=hid (HW1.out.trans hk1);clear HX1 HW1 hp1 hk1
 go_upto_region 20 with(fail)
 obtain⟨W5,hW5⟩:∃W5:World,{w1 with drawn:=w1.drawn+1}=W5:=⟨_,rfl⟩;have hkd:Kp w0.heap.size b w1 W5:=by rw[<- hW5];exact⟨Below.drew (Below.refl _ _),(Lib.OthersKept.refl _ _ w1).drew⟩
 have hS:SP w.heap.size (w.heap.size+1) [.slice (some ⟨bA,off,none⟩) n c,.func (.func 117) #[.pointer (some ⟨b,0,none⟩)] #[],.int .i64 d] [.int .i64 12,.int .i64 nn,.int .i64 pl,.string tx,.slice (some ⟨bk,ok,none⟩) nk cK] bk ok (k:Int) W5:=HS2.out.kp hkd (by omega) (by omega) hbk;have hP5:Pg w0.heap.size b (t++([[119,104,105,108,101,32]]:List (List UInt8)).flatten) W5:=by rw[<- hW5];exact HP2.out
 have hw5:=HW2.out.trans hkd;refine wp_region_held (S:=SP w.heap.size (w.heap.size+1) [.slice (some ⟨bA,off,none⟩) n c,.func (.func 117) #[.pointer (some ⟨b,0,none⟩)] #[],.int .i64 d] [.int .i64 12,.int .i64 nn,.int .i64 pl,.string tx,.slice (some ⟨bk,ok,none⟩) nk cK] bk ok (k:Int)) (by kernel_rfl) ?_;rw[hW5];clear hW5;refine aG 0 (.agg #[.slice (some ⟨bA,off,none⟩) n c,.func (.func 117) #[.pointer (some ⟨b,0,none⟩)] #[],.int .i64 d]) (by kernel_rfl) rfl rfl (λ_ _ _ h=>h) rfl (ak rfl rfl (λw' q=>aV ((q.1.cell 0).trans rfl) ((q.1.cell 1).trans rfl) ((q.1.cell 2).trans rfl))) hS ?_;simp only[ap];refine aG 1 (.pointer (some ⟨w.heap.size+1,4,none⟩)) (by kernel_rfl) rfl rfl (λ_ _ _ h=>h) rfl (ay rfl rfl (aD _)) hS ?_;simp only[ap];refine aG 2 (.slice (some ⟨bk,ok,none⟩) nk cK) (by kernel_rfl) rfl rfl (λ_ _ _ h=>h) rfl (ak rfl rfl (λw' q=>aH ((q.2.1.cell 4).trans rfl))) hS ?_;simp only[ap];refine aG 3 (.pointer (some ⟨bk,ok+0,none⟩)) (by kernel_rfl) rfl rfl (λ_ _ _ h=>h) rfl (bq rfl rfl rfl (λw=>aN bk ok nk cK 0 hnk w)) hS ?_;simp only[ap];refine aG 4 (.int .i64 (k:Int)) (by kernel_rfl) rfl rfl (λ_ _ _ h=>h) rfl (ak rfl rfl (λw' q=>aB q.2.2)) hS ?_;simp only[ap]
 refine aQ 5 ({dst:=some 102,op:=Op.call {callee:=Callee.value (Operand.func 66),args := #[Operand.tmp 97,Operand.tmp 101],argTypes := #[73,3]},type:=0,pos := "printer.go:147",after := #[{on:=0,ground:=Ground.data},{on:=4,ground:=Ground.data}],guard:=none}:Oper) (args := #[.agg #[.slice (some ⟨bA,off,none⟩) n c,.func (.func 117) #[.pointer (some ⟨b,0,none⟩)] #[],.int .i64 d],.int .i64 (k:Int)]) nZ rfl rfl (by kernel_rfl) rfl rfl (HO.out _ _ (Kp.w0 HB.out hw5) hP5 (by simp;have:=HL.out;simp at this;omega)) ?_;rintro e w2 ⟨rfl,hp2,hk2⟩;have hS2:=hS.kp hk2 (by omega) (by omega) hbk;refine .inr ⟨_,rfl,hS2,?_⟩;simp only[ap];refine wpAnyH_done (by kernel_rfl) ?_ _;have HP3:=hid hp2;have HW3:=hid (hw5.trans hk2);clear hS hP5 hw5 hkd HS2 HP2 HW2 hp2 hk2 hS2;go_wp2
 go_end0
 exact⟨rfl,by simpa using HP3.out,HW3.out⟩
theorem QN {w0:World}{A:Option Addr}{l:List Tr.Nd}{n c b f:Nat}(hx:nR w0 A l n)(hr:lH w0 A l n c b f)(d:Int)(p k:Nat)(t:List UInt8)(w:World)(hp:p<n)(hk:(ag l p).kd=15)(hk0:(ag l p).ks[0]?=some (k:Int))(hkf:k<f)(hkn:k<n)(hke:Tr.aI (ag l k).kd=true)
  (hb:Below w0.heap.size w0 w) (h:Pg w0.heap.size b t w) (hl:t.length+(eF l f p).length<=140737488355328):Calls Tryz.prog 72 #[PV A n c b d,.int .i64 (p:Int)] w (aK w0.heap.size b (t++eF l f p) (.tuple #[]) w):=by
 have hpl:p<l.length:=by rw[<- hx.len];exact hp
 have hkid:aL l p 0=(k:Int):=by unfold aL;rw[List.getD_eq_getElem?_getD,hk0];rfl
 have hex:eF l f p=[116,104,114,111,119,32]++bE l f k:=by simp[eF,hk,hkid]
 rw[hex]at hl |-;clear hex hkid;obtain⟨bA,off,K,cK,rfl,hlt,c0,c1,c2,c3,c4,z5⟩:=aZ hx.nds hb p hpl;rw[<- aS hpl]at c0 c1 c2 c3 c4 z5;rw[hk]at c0;have hpz:(p:Int)<(n:Int):=by omega
 obtain⟨hnk,hk1⟩:=List.getElem?_eq_some_iff.1 hk0;obtain⟨bk,ok,rfl,hbk,hck0⟩:=z5 hnk;have hck:w0.cell? ⟨bk,ok,none⟩=some (.int .i64 (k:Int)):=(hck0 0 hnk).trans (by rw[hk1]);have H:=hid h;have HB:=hid hb;have hbw:=h.bw;have hbl:=h.lt;have HL:=hid hl;have HO:=hid (λt' w' (q:Below w0.heap.size w0 w') (h':Pg w0.heap.size b t' w') (hl':t'.length+(bE l f k).length<=140737488355328)=>hr k d t' w' hkf hkn hke q h' hl');unfold PV at HO;unfold PV;clear hck0 hk0 hk1;generalize bE l f (k:Int)=y at *
 generalize (ag l p).n=nn at *
 generalize (ag l p).pl=pl at *
 generalize (ag l p).tx=tx at *
 generalize (ag l p).ks.length=nk at *
 have HX1:=hid (show SP w.heap.size (w.heap.size+1) [.slice (some ⟨bA,off,none⟩) n c,.func (.func 117) #[.pointer (some ⟨b,0,none⟩)] #[],.int .i64 d] [.int .i64 15,.int .i64 nn,.int .i64 pl,.string tx,.slice (some ⟨bk,ok,none⟩) nk cK] bk ok (k:Int) ((w.alloc (.cells #[.slice (some ⟨bA,off,none⟩) n c,.func (.func 117) #[.pointer (some ⟨b,0,none⟩)] #[],.int .i64 d] 73)).alloc (.cells #[.int .i64 15,.int .i64 nn,.int .i64 pl,.string tx,.slice (some ⟨bk,ok,none⟩) nk cK] 37)) by
  have b1:=Bx.new w 73 [.slice (some ⟨bA,off,none⟩) n c,.func (.func 117) #[.pointer (some ⟨b,0,none⟩)] #[],.int .i64 d]
  have b2:=Bx.new (w.alloc (.cells #[.slice (some ⟨bA,off,none⟩) n c,.func (.func 117) #[.pointer (some ⟨b,0,none⟩)] #[],.int .i64 d] 73)) 37 [.int .i64 15,.int .i64 nn,.int .i64 pl,.string tx,.slice (some ⟨bk,ok,none⟩) nk cK]
  have b3:=b1.alloc (.cells #[.int .i64 15,.int .i64 nn,.int .i64 pl,.string tx,.slice (some ⟨bk,ok,none⟩) nk cK] 37)
  rw[World.size_alloc]at b2
  refine⟨b3,b2,?_⟩
  have hb2:Below w0.heap.size w0 ((w.alloc (.cells #[.slice (some ⟨bA,off,none⟩) n c,.func (.func 117) #[.pointer (some ⟨b,0,none⟩)] #[],.int .i64 d] 73)).alloc (.cells #[.int .i64 15,.int .i64 nn,.int .i64 pl,.string tx,.slice (some ⟨bk,ok,none⟩) nk cK] 37)):=(HB.out.alloc hbw _).alloc (by rw[World.size_alloc];omega) _
  exact(hb2.cell (p:=⟨bk,ok,none⟩) hbk).trans hck)
 have HW1:=hid (((Kp.refl w0.heap.size b w).alloc hbw (.cells #[.slice (some ⟨bA,off,none⟩) n c,.func (.func 117) #[.pointer (some ⟨b,0,none⟩)] #[],.int .i64 d] 73)).alloc (by rw[World.size_alloc];omega) (.cells #[.int .i64 15,.int .i64 nn,.int .i64 pl,.string tx,.slice (some ⟨bk,ok,none⟩) nk cK] 37));clear hk hr hx hb h hl hpl hke hck;go_enter Tryz.func72,Tryz.ntmps72
 go_wp2_with (go_at_call 117;refine(aC w0.heap.size b t [[116,104,114,111,119,32]] _ ((H.out.alloc _).alloc _) (by simp;have:=HL.out;simp at this;omega) (by simp) 1 rfl _ (by rfl) _ (by simp[World.size_alloc])).mono ?_);rintro e w1 ⟨rfl,hp1,hk1⟩;have HS2:=hid (HX1.out.kp hk1 (by omega) (by omega) hbk);have HP2:=hid hp1;have HW2:=hid (HW1.out.trans hk1);clear HX1 HW1 hp1 hk1
 go_upto_region 27 with(fail)
 obtain⟨W5,hW5⟩:∃W5:World,{w1 with drawn:=w1.drawn+1}=W5:=⟨_,rfl⟩;have hkd:Kp w0.heap.size b w1 W5:=by rw[<- hW5];exact⟨Below.drew (Below.refl _ _),(Lib.OthersKept.refl _ _ w1).drew⟩
 have hS:SP w.heap.size (w.heap.size+1) [.slice (some ⟨bA,off,none⟩) n c,.func (.func 117) #[.pointer (some ⟨b,0,none⟩)] #[],.int .i64 d] [.int .i64 15,.int .i64 nn,.int .i64 pl,.string tx,.slice (some ⟨bk,ok,none⟩) nk cK] bk ok (k:Int) W5:=HS2.out.kp hkd (by omega) (by omega) hbk;have hP5:Pg w0.heap.size b (t++([[116,104,114,111,119,32]]:List (List UInt8)).flatten) W5:=by rw[<- hW5];exact HP2.out
 have hw5:=HW2.out.trans hkd;refine wp_region_held (S:=SP w.heap.size (w.heap.size+1) [.slice (some ⟨bA,off,none⟩) n c,.func (.func 117) #[.pointer (some ⟨b,0,none⟩)] #[],.int .i64 d] [.int .i64 15,.int .i64 nn,.int .i64 pl,.string tx,.slice (some ⟨bk,ok,none⟩) nk cK] bk ok (k:Int)) (by kernel_rfl) ?_;rw[hW5];clear hW5;refine aG 0 (.agg #[.slice (some ⟨bA,off,none⟩) n c,.func (.func 117) #[.pointer (some ⟨b,0,none⟩)] #[],.int .i64 d]) (by kernel_rfl) rfl rfl (λ_ _ _ h=>h) rfl (ak rfl rfl (λw' q=>aV ((q.1.cell 0).trans rfl) ((q.1.cell 1).trans rfl) ((q.1.cell 2).trans rfl))) hS ?_;simp only[ap];refine aG 1 (.pointer (some ⟨w.heap.size+1,4,none⟩)) (by kernel_rfl) rfl rfl (λ_ _ _ h=>h) rfl (ay rfl rfl (aD _)) hS ?_;simp only[ap];refine aG 2 (.slice (some ⟨bk,ok,none⟩) nk cK) (by kernel_rfl) rfl rfl (λ_ _ _ h=>h) rfl (ak rfl rfl (λw' q=>aH ((q.2.1.cell 4).trans rfl))) hS ?_;simp only[ap];refine aG 3 (.pointer (some ⟨bk,ok+0,none⟩)) (by kernel_rfl) rfl rfl (λ_ _ _ h=>h) rfl (bq rfl rfl rfl (λw=>aN bk ok nk cK 0 hnk w)) hS ?_;simp only[ap];refine aG 4 (.int .i64 (k:Int)) (by kernel_rfl) rfl rfl (λ_ _ _ h=>h) rfl (ak rfl rfl (λw' q=>aB q.2.2)) hS ?_;simp only[ap]
 refine aQ 5 ({dst:=some 124,op:=Op.call {callee:=Callee.value (Operand.func 66),args := #[Operand.tmp 119,Operand.tmp 123],argTypes := #[73,3]},type:=0,pos := "printer.go:154",after := #[{on:=0,ground:=Ground.data},{on:=4,ground:=Ground.data}],guard:=none}:Oper) (args := #[.agg #[.slice (some ⟨bA,off,none⟩) n c,.func (.func 117) #[.pointer (some ⟨b,0,none⟩)] #[],.int .i64 d],.int .i64 (k:Int)]) nZ rfl rfl (by kernel_rfl) rfl rfl (HO.out _ _ (Kp.w0 HB.out hw5) hP5 (by simp;have:=HL.out;simp at this;omega)) ?_;rintro e w2 ⟨rfl,hp2,hk2⟩;have hS2:=hS.kp hk2 (by omega) (by omega) hbk;refine .inr ⟨_,rfl,hS2,?_⟩;simp only[ap];refine wpAnyH_done (by kernel_rfl) ?_ _;have HP3:=hid hp2;have HW3:=hid (hw5.trans hk2);clear hS hP5 hw5 hkd HS2 HP2 HW2 hp2 hk2 hS2;go_wp2
 go_end0
 exact⟨rfl,by simpa using HP3.out,HW3.out⟩
theorem QO {w0:World}{A:Option Addr}{l:List Tr.Nd}{n c b f:Nat}(hx:nR w0 A l n)(hr:lH w0 A l n c b f)(d:Int)(p k:Nat)(t:List UInt8)(w:World)(hp:p<n)(hk:(ag l p).kd=17)(hk0:(ag l p).ks[0]?=some (k:Int))(hkf:k<f)(hkn:k<n)(hke:Tr.aI (ag l k).kd=true)
  (hb:Below w0.heap.size w0 w) (h:Pg w0.heap.size b t w) (hl:t.length+(eF l f p).length<=140737488355328):Calls Tryz.prog 72 #[PV A n c b d,.int .i64 (p:Int)] w (aK w0.heap.size b (t++eF l f p) (.tuple #[]) w):=by
 have hpl:p<l.length:=by rw[<- hx.len];exact hp
 have hkid:aL l p 0=(k:Int):=by unfold aL;rw[List.getD_eq_getElem?_getD,hk0];rfl
 have hex:eF l f p=(ag l p).tx.data.toList++[32,61,32,110,101,119,32]++bE l f k:=by simp[eF,hk,hkid,bu]
 rw[hex]at hl |-;clear hex hkid;obtain⟨bA,off,K,cK,rfl,hlt,c0,c1,c2,c3,c4,z5⟩:=aZ hx.nds hb p hpl;rw[<- aS hpl]at c0 c1 c2 c3 c4 z5;rw[hk]at c0;have hpz:(p:Int)<(n:Int):=by omega
 obtain⟨hnk,hk1⟩:=List.getElem?_eq_some_iff.1 hk0;obtain⟨bk,ok,rfl,hbk,hck0⟩:=z5 hnk;have hck:w0.cell? ⟨bk,ok,none⟩=some (.int .i64 (k:Int)):=(hck0 0 hnk).trans (by rw[hk1]);have H:=hid h;have HB:=hid hb;have hbw:=h.bw;have hbl:=h.lt;have HL:=hid hl;have HO:=hid (λt' w' (q:Below w0.heap.size w0 w') (h':Pg w0.heap.size b t' w') (hl':t'.length+(bE l f k).length<=140737488355328)=>hr k d t' w' hkf hkn hke q h' hl');unfold PV at HO;unfold PV;clear hck0 hk0 hk1;generalize bE l f (k:Int)=y at *
 generalize (ag l p).n=nn at *
 generalize (ag l p).pl=pl at *
 generalize (ag l p).tx=tx at *
 generalize (ag l p).ks.length=nk at *
 have HX1:=hid (show SP w.heap.size (w.heap.size+1) [.slice (some ⟨bA,off,none⟩) n c,.func (.func 117) #[.pointer (some ⟨b,0,none⟩)] #[],.int .i64 d] [.int .i64 17,.int .i64 nn,.int .i64 pl,.string tx,.slice (some ⟨bk,ok,none⟩) nk cK] bk ok (k:Int) ((w.alloc (.cells #[.slice (some ⟨bA,off,none⟩) n c,.func (.func 117) #[.pointer (some ⟨b,0,none⟩)] #[],.int .i64 d] 73)).alloc (.cells #[.int .i64 17,.int .i64 nn,.int .i64 pl,.string tx,.slice (some ⟨bk,ok,none⟩) nk cK] 37)) by
  have b1:=Bx.new w 73 [.slice (some ⟨bA,off,none⟩) n c,.func (.func 117) #[.pointer (some ⟨b,0,none⟩)] #[],.int .i64 d]
  have b2:=Bx.new (w.alloc (.cells #[.slice (some ⟨bA,off,none⟩) n c,.func (.func 117) #[.pointer (some ⟨b,0,none⟩)] #[],.int .i64 d] 73)) 37 [.int .i64 17,.int .i64 nn,.int .i64 pl,.string tx,.slice (some ⟨bk,ok,none⟩) nk cK]
  have b3:=b1.alloc (.cells #[.int .i64 17,.int .i64 nn,.int .i64 pl,.string tx,.slice (some ⟨bk,ok,none⟩) nk cK] 37)
  rw[World.size_alloc]at b2
  refine⟨b3,b2,?_⟩
  have hb2:Below w0.heap.size w0 ((w.alloc (.cells #[.slice (some ⟨bA,off,none⟩) n c,.func (.func 117) #[.pointer (some ⟨b,0,none⟩)] #[],.int .i64 d] 73)).alloc (.cells #[.int .i64 17,.int .i64 nn,.int .i64 pl,.string tx,.slice (some ⟨bk,ok,none⟩) nk cK] 37)):=(HB.out.alloc hbw _).alloc (by rw[World.size_alloc];omega) _
  exact(hb2.cell (p:=⟨bk,ok,none⟩) hbk).trans hck)
 have HW1:=hid (((Kp.refl w0.heap.size b w).alloc hbw (.cells #[.slice (some ⟨bA,off,none⟩) n c,.func (.func 117) #[.pointer (some ⟨b,0,none⟩)] #[],.int .i64 d] 73)).alloc (by rw[World.size_alloc];omega) (.cells #[.int .i64 17,.int .i64 nn,.int .i64 pl,.string tx,.slice (some ⟨bk,ok,none⟩) nk cK] 37));clear hk hr hx hb h hl hpl hke hck;go_enter Tryz.func72,Tryz.ntmps72
 go_wp2_with (go_at_call 117;refine(aC w0.heap.size b t [tx.data.toList,[32,61,32,110,101,119,32]] _ ((H.out.alloc _).alloc _) (by simp;have:=HL.out;simp at this;omega) (by simp) 2 rfl _ (by simp[iq];try rfl) _ (by simp[World.size_alloc])).mono ?_);rintro e w1 ⟨rfl,hp1,hk1⟩;have HS2:=hid (HX1.out.kp hk1 (by omega) (by omega) hbk);have HP2:=hid hp1;have HW2:=hid (HW1.out.trans hk1);clear HX1 HW1 hp1 hk1
 go_upto_region 32 with(fail)
 obtain⟨W5,hW5⟩:∃W5:World,{w1 with drawn:=w1.drawn+1}=W5:=⟨_,rfl⟩;have hkd:Kp w0.heap.size b w1 W5:=by rw[<- hW5];exact⟨Below.drew (Below.refl _ _),(Lib.OthersKept.refl _ _ w1).drew⟩
 have hS:SP w.heap.size (w.heap.size+1) [.slice (some ⟨bA,off,none⟩) n c,.func (.func 117) #[.pointer (some ⟨b,0,none⟩)] #[],.int .i64 d] [.int .i64 17,.int .i64 nn,.int .i64 pl,.string tx,.slice (some ⟨bk,ok,none⟩) nk cK] bk ok (k:Int) W5:=HS2.out.kp hkd (by omega) (by omega) hbk;have hP5:Pg w0.heap.size b (t++([tx.data.toList,[32,61,32,110,101,119,32]]:List (List UInt8)).flatten) W5:=by rw[<- hW5];exact HP2.out
 have hw5:=HW2.out.trans hkd;refine wp_region_held (S:=SP w.heap.size (w.heap.size+1) [.slice (some ⟨bA,off,none⟩) n c,.func (.func 117) #[.pointer (some ⟨b,0,none⟩)] #[],.int .i64 d] [.int .i64 17,.int .i64 nn,.int .i64 pl,.string tx,.slice (some ⟨bk,ok,none⟩) nk cK] bk ok (k:Int)) (by kernel_rfl) ?_;rw[hW5];clear hW5;refine aG 0 (.agg #[.slice (some ⟨bA,off,none⟩) n c,.func (.func 117) #[.pointer (some ⟨b,0,none⟩)] #[],.int .i64 d]) (by kernel_rfl) rfl rfl (λ_ _ _ h=>h) rfl (ak rfl rfl (λw' q=>aV ((q.1.cell 0).trans rfl) ((q.1.cell 1).trans rfl) ((q.1.cell 2).trans rfl))) hS ?_;simp only[ap];refine aG 1 (.pointer (some ⟨w.heap.size+1,4,none⟩)) (by kernel_rfl) rfl rfl (λ_ _ _ h=>h) rfl (ay rfl rfl (aD _)) hS ?_;simp only[ap];refine aG 2 (.slice (some ⟨bk,ok,none⟩) nk cK) (by kernel_rfl) rfl rfl (λ_ _ _ h=>h) rfl (ak rfl rfl (λw' q=>aH ((q.2.1.cell 4).trans rfl))) hS ?_;simp only[ap];refine aG 3 (.pointer (some ⟨bk,ok+0,none⟩)) (by kernel_rfl) rfl rfl (λ_ _ _ h=>h) rfl (bq rfl rfl rfl (λw=>aN bk ok nk cK 0 hnk w)) hS ?_;simp only[ap];refine aG 4 (.int .i64 (k:Int)) (by kernel_rfl) rfl rfl (λ_ _ _ h=>h) rfl (ak rfl rfl (λw' q=>aB q.2.2)) hS ?_;simp only[ap]
 refine aQ 5 ({dst:=some 144,op:=Op.call {callee:=Callee.value (Operand.func 66),args := #[Operand.tmp 139,Operand.tmp 143],argTypes := #[73,3]},type:=0,pos := "printer.go:159",after := #[{on:=0,ground:=Ground.data},{on:=4,ground:=Ground.data}],guard:=none}:Oper) (args := #[.agg #[.slice (some ⟨bA,off,none⟩) n c,.func (.func 117) #[.pointer (some ⟨b,0,none⟩)] #[],.int .i64 d],.int .i64 (k:Int)]) nZ rfl rfl (by kernel_rfl) rfl rfl (HO.out _ _ (Kp.w0 HB.out hw5) hP5 (by simp;have:=HL.out;simp at this;omega)) ?_;rintro e w2 ⟨rfl,hp2,hk2⟩;have hS2:=hS.kp hk2 (by omega) (by omega) hbk;refine .inr ⟨_,rfl,hS2,?_⟩;simp only[ap];refine wpAnyH_done (by kernel_rfl) ?_ _;have HP3:=hid hp2;have HW3:=hid (hw5.trans hk2);clear hS hP5 hw5 hkd HS2 HP2 HW2 hp2 hk2 hS2;go_wp2
 go_end0
 exact⟨rfl,by simpa using HP3.out,HW3.out⟩
theorem QP {w0:World}{A:Option Addr}{l:List Tr.Nd}{n:Nat}(c b f:Nat)(hx:nR w0 A l n)(d:Int)(p:Nat)(t:List UInt8)(w:World)(hp:p<n)(hk:(ag l p).kd=16)(hb:Below w0.heap.size w0 w)(h:Pg w0.heap.size b t w)(hl:t.length+(eF l f p).length<=140737488355328) :
  Calls Tryz.prog 72 #[PV A n c b d,.int .i64 (p:Int)] w (aK w0.heap.size b (t++eF l f p) (.tuple #[]) w):=by
 have hpl:p<l.length:=by rw[<- hx.len];exact hp
 have hex:eF l f p=[116,114,121]:=by simp[eF,hk]
 rw[hex]at hl |-;clear hex;obtain⟨bA,off,K,cK,rfl,hlt,c0,c1,c2,c3,c4,z5⟩:=aZ hx.nds hb p hpl;rw[<- aS hpl]at c0 c1 c2 c3 c4 z5;rw[hk]at c0;have hpz:(p:Int)<(n:Int):=by omega
 have H:=hid h;have HB:=hid hb;have hbw:=h.bw;have hbl:=h.lt;have HL:=hid hl;generalize (ag l p).n=nn at *
 generalize (ag l p).pl=pl at *
 generalize (ag l p).tx=tx at *
 generalize (ag l p).ks.length=nk at *
 clear hk z5 hx hb h hl hpl;unfold PV;go_enter Tryz.func72,Tryz.ntmps72
 go_wp2_with (go_at_call 117;refine(aC w0.heap.size b t [[116,114,121]] _ ((H.out.alloc _).alloc _) (by simp;have:=HL.out;simp at this;omega) (by simp) 1 rfl _ (by rfl) _ (by simp[World.size_alloc])).mono ?_);rintro e w1 ⟨rfl,hp1,hk1⟩;have HP:=hid hp1;have HK:=hid hk1;clear hp1 hk1;go_wp2
 go_end0
 exact⟨rfl,by simpa using HP.out,(((Kp.refl _ b w).alloc hbw _).alloc (by rw[World.size_alloc];omega) _).trans HK.out⟩
theorem QQ {w0:World}{A:Option Addr}{l:List Tr.Nd}{n:Nat}(c b f:Nat)(hx:nR w0 A l n)(d:Int)(p:Nat)(t:List UInt8)(w:World)(hp:p<n)(hk:(ag l p).kd=14)(hr:lH w0 A l n c b f)(hfew:(ag l p).ks.length<=100000)(hks:∀k ∈ (ag l p).ks,∃k2:Nat,k=(k2:Int)/\k2<f/\k2<n/\Tr.aI (ag l k2).kd=true)(hb:Below w0.heap.size w0 w)(h:Pg w0.heap.size b t w)(hl:t.length+(eF l f p).length<=140737488355328) :
  Calls Tryz.prog 72 #[PV A n c b d,.int .i64 (p:Int)] w (aK w0.heap.size b (t++eF l f p) (.tuple #[]) w):=by
 have hpl:p<l.length:=by rw[<- hx.len];exact hp
 have hex:eF l f p=[114,101,116,117,114,110]++((ag l p).ks.map λk=>[32]++bE l f k).flatten:=by simp[eF,hk]
 rw[hex]at hl |-;clear hex;obtain⟨bA,off,K,cK,rfl,hlt,c0,c1,c2,c3,c4,z5⟩:=aZ hx.nds hb p hpl;rw[<- aS hpl]at c0 c1 c2 c3 c4 z5;rw[hk]at c0;have hpz:(p:Int)<(n:Int):=by omega
 have H:=hid h;have HB:=hid hb;have hbw:=h.bw;have hbl:=h.lt;have HL:=hid hl;have hnk:(ag l p).ks.length<=100000:=hfew;have HE:=hid (λw' (q:Below w0.heap.size w0 w') (h':Pg w0.heap.size b t w')=>Eh (some ⟨bA,off,none⟩) n c b d 14 (ag l p).n (ag l p).pl (ag l p).tx K (ag l p).ks.length cK (ag l p).ks (bE l f) t w' h' rfl hnk (λw2 q2=>z5.below (q.trans q2.1)) (λk hk' t' w2 q2 h2 hl2=>by
  obtain⟨k',rfl,hkf,hkn,hke⟩:=hks k hk';exact hr k' d t' w2 hkf hkn hke (q.trans q2.1) h2 hl2) hl)
 unfold PV at HE;unfold PV;generalize ([114,101,116,117,114,110]++((ag l p).ks.map λk=>[32]++bE l f k).flatten)=y at *
 generalize (ag l p).n=nn at *
 generalize (ag l p).pl=pl at *
 generalize (ag l p).tx=tx at *
 clear z5 hnk hfew hks hr;generalize (ag l p).ks.length=nk at *
 clear hk hx hb h hl hpl;go_enter Tryz.func72,Tryz.ntmps72
 go_wp2_with (go_at_call 134;refine(HE.out _ ((HB.out.alloc hbw _).alloc (by rw[World.size_alloc];omega) _) ((H.out.alloc _).alloc _)).mono ?_);rintro e w1 ⟨rfl,hp1,hk1⟩;have HP:=hid hp1;have HK:=hid hk1;clear hp1 hk1;go_wp2
 go_end0
 exact⟨rfl,HP.out,(((Kp.refl _ b w).alloc hbw _).alloc (by rw[World.size_alloc];omega) _).trans HK.out⟩
end
end Go.Proofs.YteecfjhjllajlaaGreatDoor
