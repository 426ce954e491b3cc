/- PROVED here: parts N23 of the claim. No condition but those in each theorem's own head. -/
import Derived.Test.YtedkgofehbecmaaGreatDoorU22
namespace Go.Proofs.YtedkgofehbecmaaGreatDoor.Tr
open Go.Lib (hid)
section
open Go Go.RowKit
section
variable {ops:Array Oper} {Q:Exit->Act->World->Prop} {rest:List Oper} {a:Act} {w:World} {d:Option Tmp} {ty:TypeId} {p:String} {af:Array Edge} {gd:Option (Nat × Bool)}
theorem p_region {id:Nat}{l:List Oper}(h:wpList Tryz.prog l.toArray Q l a w):(Code.region id l.toArray false).wp Tryz.prog Q a w:=wp_region_list (by simpa using h)
theorem p_val {op:Op}{v:Value}(hw:Region.wanted ⟨d,op,ty,p,af,gd⟩ (yielded ops a.tmps)=true)(hy:(execOp a.eval ⟨d,op,ty,p,af,gd⟩).run Tryz.prog w = .ok (.value v) w)
  (h:wpList Tryz.prog ops Q rest (a.put d v) w):wpList Tryz.prog ops Q (⟨d,op,ty,p,af,gd⟩ :: rest) a w:=
 wpList_step λK hK=>by
  rw[if_pos hw]
  unfold Oper.wp
  rw[hy]
  exact hK _ _ h
theorem p_skip {op:Op}(hw:Region.wanted ⟨d,op,ty,p,af,gd⟩ (yielded ops a.tmps)=false)(h:wpList Tryz.prog ops Q rest (a.put d undef) w):wpList Tryz.prog ops Q (⟨d,op,ty,p,af,gd⟩ :: rest) a w:=
 wpList_skip hw h
theorem p_move {x:Operand}{v:Value}(hw:Region.wanted ⟨d,.move x,ty,p,af,gd⟩ (yielded ops a.tmps)=true)(hx:a.eval x=v)(h:wpList Tryz.prog ops Q rest (a.put d v) w):wpList Tryz.prog ops Q (⟨d,.move x,ty,p,af,gd⟩ :: rest) a w:=
 p_val hw (by unfold execOp;simp only[hx,Sem.run_pure]) h
theorem p_assign {x:Operand}{v:Value}(hw:Region.wanted ⟨d,.assign x,ty,p,af,gd⟩ (yielded ops a.tmps)=true)(hx:a.eval x=v)(h:wpList Tryz.prog ops Q rest (a.put d v) w):wpList Tryz.prog ops Q (⟨d,.assign x,ty,p,af,gd⟩ :: rest) a w:=
 p_val hw (by unfold execOp;simp only[hx,Sem.run_pure]) h
theorem p_pickT {c x y:Operand}{v:Value}(hw:Region.wanted ⟨d,.pick c x y,ty,p,af,gd⟩ (yielded ops a.tmps)=true)(hc:a.eval c = .bool true)(hx:a.eval x=v)(h:wpList Tryz.prog ops Q rest (a.put d v) w):wpList Tryz.prog ops Q (⟨d,.pick c x y,ty,p,af,gd⟩ :: rest) a w:=
 p_val hw (by unfold execOp;simp[hc,hx,asBool]) h
theorem p_pickF {c x y:Operand}{v:Value}(hw:Region.wanted ⟨d,.pick c x y,ty,p,af,gd⟩ (yielded ops a.tmps)=true)(hc:a.eval c = .bool false)(hy:a.eval y=v)(h:wpList Tryz.prog ops Q rest (a.put d v) w):wpList Tryz.prog ops Q (⟨d,.pick c x y,ty,p,af,gd⟩ :: rest) a w:=
 p_val hw (by unfold execOp;simp[hc,hy,asBool]) h
theorem p_bin {op:BinOp}{t:TypeId}{x y:Operand}{u v r:Value}(hw:Region.wanted ⟨d,.binOp op t x y t,ty,p,af,gd⟩ (yielded ops a.tmps)=true)(hx:a.eval x=u)(hy:a.eval y=v)
  (hg:(eqGuard op t x y u v).run Tryz.prog w = .ok () w) (hr:(binOp op t u v).run Tryz.prog w = .ok r w) (h:wpList Tryz.prog ops Q rest (a.put d r) w):wpList Tryz.prog ops Q (⟨d,.binOp op t x y t,ty,p,af,gd⟩ :: rest) a w:=
 p_val hw (by unfold execOp;simp only[hx,hy,Sem.run_bind,hg,hr,Sem.run_pure,Result.andThen_ok]) h
theorem p_leqI {x y:Operand}{u v:Int}{b:Bool}(hw:Region.wanted ⟨d,.binOp .leq 3 x y 3,ty,p,af,gd⟩ (yielded ops a.tmps)=true)(hx:a.eval x = .int .i64 u)(hy:a.eval y = .int .i64 v)(hb:decide (u<=v)=b)
  (h:wpList Tryz.prog ops Q rest (a.put d (.bool b)) w):wpList Tryz.prog ops Q (⟨d,.binOp .leq 3 x y 3,ty,p,af,gd⟩ :: rest) a w:=
 p_bin hw hx hy (by simp[go_sem]) (by simp[go_sem,hb]) h
theorem p_load {t:TypeId}{x:Operand}{ad:Addr}{v:Value}(hw:Region.wanted ⟨d,.load t x,ty,p,af,gd⟩ (yielded ops a.tmps)=true)(hx:a.eval x = .pointer (some ad))(hl:(Instr.loadAt t (.pointer (some ad))).run Tryz.prog w = .ok v w)
  (h:wpList Tryz.prog ops Q rest (a.put d v) w):wpList Tryz.prog ops Q (⟨d,.load t x,ty,p,af,gd⟩ :: rest) a w:=
 p_val hw (by unfold execOp;simp only[hx,Sem.run_bind,hl,Sem.run_pure,Result.andThen_ok]) h
theorem p_field {t:TypeId}{k:Nat}{x:Operand}{ad ad':Addr}(hw:Region.wanted ⟨d,.fieldAddr t x k,ty,p,af,gd⟩ (yielded ops a.tmps)=true)(hx:a.eval x = .pointer (some ad))(hl:(Instr.fieldAt t (.pointer (some ad)) k).run Tryz.prog w = .ok (.pointer (some ad')) w)
  (h:wpList Tryz.prog ops Q rest (a.put d (.pointer (some ad'))) w):wpList Tryz.prog ops Q (⟨d,.fieldAddr t x k,ty,p,af,gd⟩ :: rest) a w:=
 p_val hw (by unfold execOp;simp only[hx,Sem.run_bind,hl,Sem.run_pure,Result.andThen_ok]) h
theorem p_callv {F:Nat}{z:Operand}{xs:Array Operand}{ts:Array TypeId}{args ys:Array Value}{v:Value}{C:World->Prop}(hF:Own F)(hw:Region.wanted ⟨d,.call { callee :=.value z,args:=xs,argTypes:=ts },ty,p,af,gd⟩ (yielded ops a.tmps)=true)
  (hz:a.eval z = .func (.func F) #[] ys) (ha':(xs.toList.map a.eval).toArray=args) (hc:Calls Tryz.prog F (args++ys) w λe w'=>e = .returned v/\C w')
  (h:∀w',C w'->wpList Tryz.prog ops Q rest (a.put d v) w'):wpList Tryz.prog ops Q (⟨d,.call { callee :=.value z,args:=xs,argTypes:=ts },ty,p,af,gd⟩ :: rest) a w:=
 wpList_step λK hK=>by
  rw[if_pos hw]
  unfold Oper.wp execOp
  have ha:xs.map a.eval=args:=by rw[<- ha'];exact Array.ext' (by rw[Array.toList_map])
  have e2:(#[]++args:Array Value)++ys=args++ys:=by simp
  simp only[resolve,hz,ha,Deferred.ofValue,invoke,Sem.run_bind,Sem.run_pure,Result.andThen_ok]
  rw[e2,run_own hF]
  exact hc.mono λe w' ⟨he,hC⟩=>by subst he;exact hK _ _ (h w' hC)
end
theorem own56:Own 266:=⟨_,Tryz.func266,by kernel_rfl,by kernel_rfl⟩
theorem run_field50_0 (b:Nat)(w:World):(Instr.fieldAt 209 (.pointer (some ⟨b,0,none⟩)) 0).run Tryz.prog w = .ok (.pointer (some ⟨b,0,none⟩)) w:=by kernel_rfl
theorem run_field50_1 (b:Nat)(w:World):(Instr.fieldAt 209 (.pointer (some ⟨b,0,none⟩)) 1).run Tryz.prog w = .ok (.pointer (some ⟨b,1,none⟩)) w:=by kernel_rfl
theorem run_field50_2 (b:Nat)(w:World):(Instr.fieldAt 209 (.pointer (some ⟨b,0,none⟩)) 2).run Tryz.prog w = .ok (.pointer (some ⟨b,2,none⟩)) w:=by kernel_rfl
theorem run_field50_3 (b:Nat)(w:World):(Instr.fieldAt 209 (.pointer (some ⟨b,0,none⟩)) 3).run Tryz.prog w = .ok (.pointer (some ⟨b,3,none⟩)) w:=by kernel_rfl
theorem run_field24x1 (b:Nat)(w:World):(Instr.fieldAt 50 (.pointer (some ⟨b,0,none⟩)) 1).run Tryz.prog w = .ok (.pointer (some ⟨b,1,none⟩)) w:=by kernel_rfl
theorem run_field24x3 (b:Nat)(w:World):(Instr.fieldAt 50 (.pointer (some ⟨b,0,none⟩)) 3).run Tryz.prog w = .ok (.pointer (some ⟨b,3,none⟩)) w:=by kernel_rfl
theorem run_load47 {w:World}{b off:Nat}{F:Nat}{ys:Array Value}(h:w.cell? ⟨b,off,none⟩=some (.func (.func F) #[] ys)):(Instr.loadAt 154 (.pointer (some ⟨b,off,none⟩))).run Tryz.prog w = .ok (.func (.func F) #[] ys) w:=by
 simp[go_sem,h]
theorem run_load48 {w:World}{b off:Nat}{F:Nat}{ys:Array Value}(h:w.cell? ⟨b,off,none⟩=some (.func (.func F) #[] ys)):(Instr.loadAt 207 (.pointer (some ⟨b,off,none⟩))).run Tryz.prog w = .ok (.func (.func F) #[] ys) w:=by
 simp[go_sem,h]
theorem run_load9 {w:World}{b off:Nat}{s:ByteArray}(h:w.cell? ⟨b,off,none⟩=some (.string s)):(Instr.loadAt 9 (.pointer (some ⟨b,off,none⟩))).run Tryz.prog w = .ok (.string s) w:=by
 simp[go_sem,h]
theorem ite_le {c:Prop}[Decidable c]{a b:List Pt}(h1:a.length<=10)(h2:b.length<=10):(if c then a else b).length<=10:=by split<;>assumption
theorem partsOf_len (kd:Int):(partsOf kd).length<=10:=by
 unfold partsOf
 repeat' (first|exact Nat.le_of_ble_eq_true rfl |refine ite_le ?_ ?_)
theorem kinds_map (l:List Nd)(ks:List Int):(List.range ks.length).map (λj=>(nth l (ks.getD j 0).toNat).kd)=ks.map λk=>(nth l k.toNat).kd:=by
 apply List.ext_getElem
 ·simp
 ·intro i h1 h2
  have h3:i<ks.length:=by simpa using h1
  simp[List.getD,h3]
set_option maxRecDepth 100000 in
set_option maxHeartbeats 1500000 in
theorem shaped_any (A:Option Addr)(c n p:Nat)(l:List Nd)(r:Int)(w:World)(hN:Nds w A l)(hn:n=l.length)(hk:∀x ∈ l,x.ks.length<=4000)(ht:∀x ∈ l,x.tx.size<=281474976710656)(hm:∀x ∈ l,x.n<=9223372036854775807)(hR:∀x ∈ l,∀k ∈ x.ks,∃m:Nat,k=m/\m<l.length)(hp:p<n)(hn4:n<=4000):Calls Tryz.prog 160 #[.agg #[.slice A n c,.int .i64 r],.int .i64 (p:Int)] w (BPost (ndB l (nth l p)) w):=by
 have hst:=st_func
 have hsn:=st_nil
 have e0:∀(w':World) (o:Obj),(w'.alloc o).heap.size=w'.heap.size+1:=λw' o=>World.size_alloc w' o
 have hpl:p<l.length:=by rw[<- hn];exact hp
 rw[nth_eq hpl]
 obtain⟨bA,off,rfl,hbl,hc⟩:=hN (by omega)
 obtain⟨K,ck,a0,a1,a2,a3,a4,hI⟩:=hc p hpl
 have HKC:=hid (λ(m:Nat) (hm:m<l.length)=>(hc m hm).elim λK h=>h.elim λc h=>h.1)
 have hks:=hk _ (List.getElem_mem hpl)
 have hts:=ht _ (List.getElem_mem hpl)
 have hnx:=hm _ (List.getElem_mem hpl)
 have HRK:=hid (hR _ (List.getElem_mem hpl))
 have HL:=hid hn
 clear hc hN hk ht hR hm hn
 generalize l[p]=x at *
 obtain⟨xk,xn,xp,xt,ks⟩:=x
 dsimp only at a0 a1 a2 a3 a4 hI hks hts HRK hnx
 obtain⟨W0,hW0⟩:∃W0,w.alloc (.cells #[.slice (some ⟨bA,off,none⟩) n c,.int .i64 r] 24)=W0:=⟨_,rfl⟩
 have hb0:Below w.heap.size w W0:=by rw[<- hW0];exact heap1 _ _
 have hT:Bx W0 w.heap.size 24 [.slice (some ⟨bA,off,none⟩) n c,.int .i64 r]:=by rw[<- hW0];exact Bx.new w 24 _
 have a0:=(hb0.cell (p:=⟨bA,off+p*5,none⟩) hbl).trans a0
 have a1:=(hb0.cell (p:=⟨bA,off+p*5+1,none⟩) hbl).trans a1
 have a2:=(hb0.cell (p:=⟨bA,off+p*5+2,none⟩) hbl).trans a2
 have a3:=(hb0.cell (p:=⟨bA,off+p*5+3,none⟩) hbl).trans a3
 have a4:=(hb0.cell (p:=⟨bA,off+p*5+4,none⟩) hbl).trans a4
 have d0:=(hT.cell 0).trans rfl
 obtain⟨W1,hW1⟩:∃W1,W0.alloc (.cells #[.int .i64 xk,.int .i64 xn,.int .i64 xp,.string xt,.slice K ks.length ck] 50)=W1:=⟨_,rfl⟩
 have hb1:Below W0.heap.size W0 W1:=by rw[<- hW1];exact heap1 _ _
 have hX:Bx W1 W0.heap.size 50 [.int .i64 xk,.int .i64 xn,.int .i64 xp,.string xt,.slice K ks.length ck]:=by rw[<- hW1];exact Bx.new W0 50 _
 have hT:=hT.below hb1 hT.lt
 have hbw:=bt hb0 hb1
 have HI:=hid hI
 have x0:=(hX.cell 0).trans rfl
 obtain⟨gX,hgX⟩:∃gX,gX=W0.heap.size:=⟨_,rfl⟩
 clear hb0 hb1 hI
 by_cases g1:1<=xk/\xk<=27
 ·have HSH:=hid (λw'=>shape_yes xk w' g1.1 g1.2)
  obtain⟨tB,htB⟩:∃tB,tB=txB xk xt.data.toList:=⟨_,rfl⟩
  obtain⟨kB,hkB⟩:∃kB,kB=kidB xk (ks.map λk=>(nth l k.toNat).kd):=⟨_,rfl⟩
  have HND:=hid (show ndB l ⟨xk,xn,xp,xt,ks⟩=(tB&&((decide (loB xk<=xn)&&decide (xn<=hiB xk))&&kB)) by
   rw[num_lohi xk xn hnx];unfold ndB;rw[decide_eq_true g1.1,decide_eq_true g1.2,htB,hkB];rfl)
  have HC1:=hid (λw'=>(htB▸txF_calls xk xt w' hts:Calls Tryz.prog (txF xk) #[.string xt] w' (BPost tB w')))
  have hOwn:=txF_own xk
  have HKB:=hid hkB
  clear g1 htB hkB
  go_enter Tryz.func160,Tryz.ntmps160
  go_wp2_with (go_at_call 203;refine(HSH.out _).mono ?_)
  rintro e W2 ⟨gR,rfl,hRow,hb2⟩
  have hX:=hX.below hb2 hX.lt
  have hT:=hT.below hb2 hT.lt
  have hbw:=bt hbw hb2
  clear x0 a0 a1 a2 a3 a4 d0 HSH
  have HROW:=hid hRow
  clear hRow hb2 hW0 hW1
  generalize txF xk=F at *
  generalize loB xk=lo at *
  generalize hiB xk=hi at *
  obtain⟨W3,hW3⟩:∃W3,W2.alloc (.cells #[.nilFunc,.int .i64 0,.int .i64 0,.nilFunc] 209)=W3:=⟨_,rfl⟩
  have hb3:Below W2.heap.size W2 W3:=by rw[<- hW3];exact heap1 _ _
  have hS0:Bx W3 W2.heap.size 209 [.nilFunc,.int .i64 0,.int .i64 0,.nilFunc]:=by rw[<- hW3];exact Bx.new W2 209 _
  have s0:=(hS0.cell 0).trans rfl
  have s1:=(hS0.cell 1).trans rfl
  have s2:=(hS0.cell 2).trans rfl
  have s3:=(hS0.cell 3).trans rfl
  have fs0:=hS0.frozen 0
  have fs1:=hS0.frozen 1
  have fs2:=hS0.frozen 2
  have fs3:=hS0.frozen 3
  have x4:=((hX.below hb3 hX.lt).cell 4).trans rfl
  have hS:=(((hS0.set_ 0 (.func (.func F) #[] #[])).set_ 1 (.int .i64 lo)).set_ 2 (.int .i64 hi)).set_ 3 (.func (.func 266) #[] #[.pointer (some ⟨gR,0,none⟩)])
  have hbS:Below W2.heap.size W2 ((((W3.setCell ⟨W2.heap.size,0,none⟩ (.func (.func F) #[] #[])).setCell ⟨W2.heap.size,1,none⟩ (.int .i64 lo)).setCell ⟨W2.heap.size,2,none⟩ (.int .i64 hi)).setCell ⟨W2.heap.size,3,none⟩ (.func (.func 266) #[] #[.pointer (some ⟨gR,0,none⟩)])):=(((hb3.setCell (p:=⟨W2.heap.size,0,none⟩) (Nat.le_refl _) _).setCell (p:=⟨W2.heap.size,1,none⟩) (Nat.le_refl _) _).setCell (p:=⟨W2.heap.size,2,none⟩) (Nat.le_refl _) _).setCell (p:=⟨W2.heap.size,3,none⟩) (Nat.le_refl _) _
  simp only[List.set_cons_zero,List.set_cons_succ]at hS
  have HH:=hid (And.intro hS hbS)
  clear hS hbS hS0 hb3
  go_upto_region 5 with(fail)
  obtain⟨hSS,hbS⟩:=HH.out
  have hX:=hX.below hbS hX.lt
  have hT:=hT.below hbS hT.lt
  have HROW:=hid (HROW.out.below hbS)
  have hbw:=bt hbw hbS
  clear HH s0 s1 s2 s3 fs0 fs1 fs2 fs3 x4 hW3 hbS
  generalize (((W3.setCell ⟨W2.heap.size,0,none⟩ (.func (.func F) #[] #[])).setCell ⟨W2.heap.size,1,none⟩ (.int .i64 lo)).setCell ⟨W2.heap.size,2,none⟩ (.int .i64 hi)).setCell ⟨W2.heap.size,3,none⟩ (.func (.func 266) #[] #[.pointer (some ⟨gR,0,none⟩)])=W4 at *
  obtain⟨gS,hgS⟩:∃gS,gS=W2.heap.size:=⟨_,rfl⟩
  rw[<- hgS]at hSS |-
  rw[<- hgX]at hX |-
  clear hgS hgX
  have hS:=hSS
  clear hSS
  have x4:=(hX.cell 4).trans rfl
  have hmk:=λw'=>make22 ks.length (by omega) w'
  obtain⟨W4a,hW4a⟩:∃W4a,W4.alloc (.cells (mkI ks.length (λ_=>0)) 3)=W4a:=⟨_,rfl⟩
  have hbK4:Below W4.heap.size W4 W4a:=by rw[<- hW4a];exact heap1 _ _
  have hIK:Ib W4a W4.heap.size ks.length (λ_=>0):=by rw[<- hW4a];exact World.alloc_heap_new _ _
  have x4a:=((hX.below hbK4 hX.lt).cell 4).trans rfl
  obtain⟨kq,hkq⟩:∃kq:Nat->Int,kq=λj=>(nth l (ks.getD j 0).toNat).kd:=⟨_,rfl⟩
  have HKQ:=hid hkq
  have HC3:=hid (λw' (h1:RowAt w' gR (partsOf xk)) (h2:Ib w' W4.heap.size ks.length kq)=>(show Calls Tryz.prog 266 #[.slice (some ⟨W4.heap.size,0,none⟩) ks.length ks.length,.pointer (some ⟨gR,0,none⟩)] w' (BPost kB w')from by
   obtain⟨Ap,mp,cp,q1,q2,q3,_⟩:=h1
   have h3:=h2.ints
   rw[HKQ.out,kinds_map]at h3
   have:=rowf_any W4.heap.size 0 ks.length ks.length _ gR Ap mp cp (partsOf xk) w' h3 (by rw[List.length_map]) hks (Nat.le_refl _) q1 q2 q3 (by rw[q3];exact partsOf_len xk)
   rw[kid_row xk _ (by rw[List.length_map];exact hks),<- HKB.out]at this
   exact this))
  clear hkq
  have hR0:=hS.lt
  go_wp2
  clear hmk x4 x4a
  obtain⟨gK,hgK⟩:∃gK,gK=W4.heap.size:=⟨_,rfl⟩
  rw[<- hgK]at hIK HC3 |-
  have hgK2:W4.heap.size<=gK:=Nat.le_of_eq hgK.symm
  clear hgK hW4a
  go_loopw [31] (λi wr=>∃j:Nat,j<=ks.length/\i = .int .i64 (j:Int)/\Ib wr gK ks.length (λq=>if q<j then kq q else 0)/\Below W4.heap.size W4 wr) (λi _=>ks.length-(intOf i).toNat)
  case atStart=>exact⟨0,Nat.zero_le _,rfl,hIK.congr (λi _=>by simp),hbK4⟩
  case round=>
   clear hbK4 hIK
   obtain⟨j,hj,rfl,hK,hb5⟩:=hrel
   obtain⟨W5,rfl⟩:∃W5,W5=wr:=⟨_,rfl⟩
   have hbw5:=bt hbw hb5
   have hX:=hX.below hb5 hX.lt
   have hT:=hT.below hb5 hT.lt
   have hS:=hS.below hb5 hS.lt
   have HROW:=hid (HROW.out.below hb5)
   have d0:=(hT.cell 0).trans rfl
   by_cases hjl:j<ks.length
   ·have hjz:(j:Int)<(ks.length:Int):=by omega
    obtain⟨bK,oK,rfl,hbK,hcK⟩:=HI.out (by omega)
    obtain⟨m,hm,hml⟩:=HRK.out ks[j] (List.getElem_mem hjl)
    have hck:=(hbw5.cell (p:=⟨bK,oK+j,none⟩) hbK).trans (hcK j hjl)
    rw[hm]at hck
    have hmn:m<n:=by rw[HL.out];exact hml
    have hkc:=(hbw5.cell (p:=⟨bA,off+m*5,none⟩) hbl).trans (HKC.out m hml)
    have HQ:=hid (show kq j=l[m].kd by rw[HKQ.out];simp[List.getD,hjl,hm,nth_eq hml])
    have hcg:=hK.cell hjl
    have hfg:=hK.frozen j
    simp only[Nat.lt_irrefl,if_false]at hcg
    clear hcK hm
    generalize l[m].kd=kk at *
    have HK:=hid hK
    clear hK hX hS hT
    go_wp2
    go_roundw
    case rel=>
     refine⟨j+1,by omega,by go_num,(HK.out.set_ j kk).congr (λi hi =>?_),hb5.setCell (p:=⟨gK,j,none⟩) hgK2 _⟩
     by_cases e:i=j
     ·subst e;rw[if_pos rfl,if_pos (by omega),HQ.out]
     ·rw[if_neg e]
      by_cases e2:i<j
      ·rw[if_pos e2,if_pos (by omega)]
      ·rw[if_neg e2,if_neg (by omega)]
    case measure=>simp[intOf];omega
   ·obtain rfl:j=ks.length:=by omega
    have hjz:¬(ks.length:Int)<(ks.length:Int):=by omega
    have hK:Ib W5 gK ks.length kq:=hK.congr (λi hi=>by rw[if_pos hi])
    clear hbw
    have hbw:=hbw5
    clear hb5 hT d0
    go_upto_region 11 with(fail)
    cases tB with
    |false=>
     have HE:=hid (show ndB l ⟨xk,xn,xp,xt,ks⟩=false by rw[HND.out];rfl)
     refine p_region ?_
     refine p_field rfl rfl (run_field50_0 _ _) ?_
     simp only[ap]
     refine p_load rfl rfl (run_load47 ((hS.cell 0).trans rfl)) ?_
     simp only[ap]
     refine p_field rfl rfl (run_field24x3 _ _) ?_
     simp only[ap]
     refine p_load rfl rfl (run_load9 ((hX.cell 3).trans rfl)) ?_
     simp only[ap]
     refine p_callv (args := #[.string xt]) (v :=.bool false) (C:=λw'=>Below W5.heap.size W5 w') hOwn rfl rfl rfl (HC1.out W5) ?_
     intro W6 hb6
     have hS:=hS.below hb6 hS.lt
     have hX:=hX.below hb6 hX.lt
     have hK:=hK.below hb6 hK.lt
     have HROW:=hid (HROW.out.below hb6)
     have hbw:=bt hbw hb6
     clear hb6
     simp only[ap]
     refine p_move (v :=.bool false) rfl rfl ?_
     simp only[ap]
     refine p_skip rfl ?_
     simp only[ap]
     refine p_skip rfl ?_
     simp only[ap]
     refine p_skip rfl ?_
     simp only[ap]
     refine p_skip rfl ?_
     simp only[ap]
     refine p_skip rfl ?_
     simp only[ap]
     refine p_pickF (v :=.bool false) rfl rfl rfl ?_
     simp only[ap]
     refine p_move (v :=.bool false) rfl rfl ?_
     simp only[ap]
     refine p_skip rfl ?_
     simp only[ap]
     refine p_skip rfl ?_
     simp only[ap]
     refine p_skip rfl ?_
     simp only[ap]
     refine p_skip rfl ?_
     simp only[ap]
     refine p_skip rfl ?_
     simp only[ap]
     refine p_pickF (v :=.bool false) rfl rfl rfl ?_
     simp only[ap]
     refine p_move (v :=.bool false) rfl rfl ?_
     simp only[ap]
     refine p_skip rfl ?_
     simp only[ap]
     refine p_skip rfl ?_
     simp only[ap]
     refine p_skip rfl ?_
     simp only[ap]
     refine p_skip rfl ?_
     simp only[ap]
     refine p_pickF (v :=.bool false) rfl rfl rfl ?_
     simp only[ap]
     refine p_assign (v :=.bool false) rfl rfl ?_
     simp only[ap]
     refine wpList_nil ?_
     clear hS hX hK
     go_wp2
     go_ret
     exact⟨ret_bool HE.out.symm,hbw⟩
    |true=>
     by_cases gl:lo<=xn
     ·have qL:decide (lo<=xn)=true:=decide_eq_true gl
      by_cases gh:xn<=hi
      ·have qH:decide (xn<=hi)=true:=decide_eq_true gh
       have HE:=hid (show ndB l ⟨xk,xn,xp,xt,ks⟩=kB by rw[HND.out,qL,qH];rfl)
       refine p_region ?_
       refine p_field rfl rfl (run_field50_0 _ _) ?_
       simp only[ap]
       refine p_load rfl rfl (run_load47 ((hS.cell 0).trans rfl)) ?_
       simp only[ap]
       refine p_field rfl rfl (run_field24x3 _ _) ?_
       simp only[ap]
       refine p_load rfl rfl (run_load9 ((hX.cell 3).trans rfl)) ?_
       simp only[ap]
       refine p_callv (args := #[.string xt]) (v :=.bool true) (C:=λw'=>Below W5.heap.size W5 w') hOwn rfl rfl rfl (HC1.out W5) ?_
       intro W6 hb6
       have hS:=hS.below hb6 hS.lt
       have hX:=hX.below hb6 hX.lt
       have hK:=hK.below hb6 hK.lt
       have HROW:=hid (HROW.out.below hb6)
       have hbw:=bt hbw hb6
       clear hb6
       simp only[ap]
       refine p_move (v :=.bool true) rfl rfl ?_
       simp only[ap]
       refine p_field rfl rfl (run_field50_1 _ _) ?_
       simp only[ap]
       refine p_load rfl rfl (run_load3 ((hS.cell 1).trans rfl)) ?_
       simp only[ap]
       refine p_field rfl rfl (run_field24x1 _ _) ?_
       simp only[ap]
       refine p_load rfl rfl (run_load3 ((hX.cell 1).trans rfl)) ?_
       simp only[ap]
       refine p_leqI (b:=true) rfl rfl rfl qL ?_
       simp only[ap]
       refine p_pickT (v :=.bool true) rfl rfl rfl ?_
       simp only[ap]
       refine p_move (v :=.bool true) rfl rfl ?_
       simp only[ap]
       refine p_field rfl rfl (run_field24x1 _ _) ?_
       simp only[ap]
       refine p_load rfl rfl (run_load3 ((hX.cell 1).trans rfl)) ?_
       simp only[ap]
       refine p_field rfl rfl (run_field50_2 _ _) ?_
       simp only[ap]
       refine p_load rfl rfl (run_load3 ((hS.cell 2).trans rfl)) ?_
       simp only[ap]
       refine p_leqI (b:=true) rfl rfl rfl qH ?_
       simp only[ap]
       refine p_pickT (v :=.bool true) rfl rfl rfl ?_
       simp only[ap]
       refine p_move (v :=.bool true) rfl rfl ?_
       simp only[ap]
       refine p_field rfl rfl (run_field50_3 _ _) ?_
       simp only[ap]
       refine p_load rfl rfl (run_load48 ((hS.cell 3).trans rfl)) ?_
       simp only[ap]
       refine p_move (v :=.slice (some ⟨gK,0,none⟩) ks.length ks.length) rfl rfl ?_
       simp only[ap]
       refine p_callv (args := #[.slice (some ⟨gK,0,none⟩) ks.length ks.length]) (v :=.bool kB) (C:=λw'=>Below W6.heap.size W6 w') own56 rfl rfl rfl (HC3.out W6 HROW.out hK) ?_
       intro W7 hb7
       have hbw:=bt hbw hb7
       simp only[ap]
       refine p_pickT (v :=.bool kB) rfl rfl rfl ?_
       simp only[ap]
       refine p_assign (v :=.bool kB) rfl rfl ?_
       simp only[ap]
       refine wpList_nil ?_
       clear hS hX hK
       go_wp2
       go_ret
       exact⟨ret_bool HE.out.symm,hbw⟩
      ·have qH:decide (xn<=hi)=false:=decide_eq_false gh
       have HE:=hid (show ndB l ⟨xk,xn,xp,xt,ks⟩=false by rw[HND.out,qL,qH];rfl)
       refine p_region ?_
       refine p_field rfl rfl (run_field50_0 _ _) ?_
       simp only[ap]
       refine p_load rfl rfl (run_load47 ((hS.cell 0).trans rfl)) ?_
       simp only[ap]
       refine p_field rfl rfl (run_field24x3 _ _) ?_
       simp only[ap]
       refine p_load rfl rfl (run_load9 ((hX.cell 3).trans rfl)) ?_
       simp only[ap]
       refine p_callv (args := #[.string xt]) (v :=.bool true) (C:=λw'=>Below W5.heap.size W5 w') hOwn rfl rfl rfl (HC1.out W5) ?_
       intro W6 hb6
       have hS:=hS.below hb6 hS.lt
       have hX:=hX.below hb6 hX.lt
       have hK:=hK.below hb6 hK.lt
       have HROW:=hid (HROW.out.below hb6)
       have hbw:=bt hbw hb6
       clear hb6
       simp only[ap]
       refine p_move (v :=.bool true) rfl rfl ?_
       simp only[ap]
       refine p_field rfl rfl (run_field50_1 _ _) ?_
       simp only[ap]
       refine p_load rfl rfl (run_load3 ((hS.cell 1).trans rfl)) ?_
       simp only[ap]
       refine p_field rfl rfl (run_field24x1 _ _) ?_
       simp only[ap]
       refine p_load rfl rfl (run_load3 ((hX.cell 1).trans rfl)) ?_
       simp only[ap]
       refine p_leqI (b:=true) rfl rfl rfl qL ?_
       simp only[ap]
       refine p_pickT (v :=.bool true) rfl rfl rfl ?_
       simp only[ap]
       refine p_move (v :=.bool true) rfl rfl ?_
       simp only[ap]
       refine p_field rfl rfl (run_field24x1 _ _) ?_
       simp only[ap]
       refine p_load rfl rfl (run_load3 ((hX.cell 1).trans rfl)) ?_
       simp only[ap]
       refine p_field rfl rfl (run_field50_2 _ _) ?_
       simp only[ap]
       refine p_load rfl rfl (run_load3 ((hS.cell 2).trans rfl)) ?_
       simp only[ap]
       refine p_leqI (b:=false) rfl rfl rfl qH ?_
       simp only[ap]
       refine p_pickT (v :=.bool false) rfl rfl rfl ?_
       simp only[ap]
       refine p_move (v :=.bool false) rfl rfl ?_
       simp only[ap]
       refine p_skip rfl ?_
       simp only[ap]
       refine p_skip rfl ?_
       simp only[ap]
       refine p_skip rfl ?_
       simp only[ap]
       refine p_skip rfl ?_
       simp only[ap]
       refine p_pickF (v :=.bool false) rfl rfl rfl ?_
       simp only[ap]
       refine p_assign (v :=.bool false) rfl rfl ?_
       simp only[ap]
       refine wpList_nil ?_
       clear hS hX hK
       go_wp2
       go_ret
       exact⟨ret_bool HE.out.symm,hbw⟩
     ·have qL:decide (lo<=xn)=false:=decide_eq_false gl
      have HE:=hid (show ndB l ⟨xk,xn,xp,xt,ks⟩=false by rw[HND.out,qL];rfl)
      refine p_region ?_
      refine p_field rfl rfl (run_field50_0 _ _) ?_
      simp only[ap]
      refine p_load rfl rfl (run_load47 ((hS.cell 0).trans rfl)) ?_
      simp only[ap]
      refine p_field rfl rfl (run_field24x3 _ _) ?_
      simp only[ap]
      refine p_load rfl rfl (run_load9 ((hX.cell 3).trans rfl)) ?_
      simp only[ap]
      refine p_callv (args := #[.string xt]) (v :=.bool true) (C:=λw'=>Below W5.heap.size W5 w') hOwn rfl rfl rfl (HC1.out W5) ?_
      intro W6 hb6
      have hS:=hS.below hb6 hS.lt
      have hX:=hX.below hb6 hX.lt
      have hK:=hK.below hb6 hK.lt
      have HROW:=hid (HROW.out.below hb6)
      have hbw:=bt hbw hb6
      clear hb6
      simp only[ap]
      refine p_move (v :=.bool true) rfl rfl ?_
      simp only[ap]
      refine p_field rfl rfl (run_field50_1 _ _) ?_
      simp only[ap]
      refine p_load rfl rfl (run_load3 ((hS.cell 1).trans rfl)) ?_
      simp only[ap]
      refine p_field rfl rfl (run_field24x1 _ _) ?_
      simp only[ap]
      refine p_load rfl rfl (run_load3 ((hX.cell 1).trans rfl)) ?_
      simp only[ap]
      refine p_leqI (b:=false) rfl rfl rfl qL ?_
      simp only[ap]
      refine p_pickT (v :=.bool false) rfl rfl rfl ?_
      simp only[ap]
      refine p_move (v :=.bool false) rfl rfl ?_
      simp only[ap]
      refine p_skip rfl ?_
      simp only[ap]
      refine p_skip rfl ?_
      simp only[ap]
      refine p_skip rfl ?_
      simp only[ap]
      refine p_skip rfl ?_
      simp only[ap]
      refine p_skip rfl ?_
      simp only[ap]
      refine p_pickF (v :=.bool false) rfl rfl rfl ?_
      simp only[ap]
      refine p_move (v :=.bool false) rfl rfl ?_
      simp only[ap]
      refine p_skip rfl ?_
      simp only[ap]
      refine p_skip rfl ?_
      simp only[ap]
      refine p_skip rfl ?_
      simp only[ap]
      refine p_skip rfl ?_
      simp only[ap]
      refine p_pickF (v :=.bool false) rfl rfl rfl ?_
      simp only[ap]
      refine p_assign (v :=.bool false) rfl rfl ?_
      simp only[ap]
      refine wpList_nil ?_
      clear hS hX hK
      go_wp2
      go_ret
      exact⟨ret_bool HE.out.symm,hbw⟩
 ·have HSH:=hid (λw'=>shape_no xk w' (by omega))
  have HE:=hid (show ndB l ⟨xk,xn,xp,xt,ks⟩=false by
   unfold ndB
   by_cases q1:1<=xk
   ·rw[decide_eq_true q1,decide_eq_false (show¬xk<=27 by omega)];rfl
   ·rw[decide_eq_false q1];rfl)
  clear g1
  go_enter Tryz.func160,Tryz.ntmps160
  go_wp2_with (go_at_call 203;refine(HSH.out _).mono ?_)
  rintro e W2 ⟨rfl,hb2⟩
  have hbw:=bt hbw hb2
  clear x0 a0 a1 a2 a3 a4 d0 HSH hW0 hW1 hX hT
  obtain⟨W3,hW3⟩:∃W3,W2.alloc (.cells #[.nilFunc,.int .i64 0,.int .i64 0,.nilFunc] 209)=W3:=⟨_,rfl⟩
  have hb3:Below W2.heap.size W2 W3:=by rw[<- hW3];exact heap1 _ _
  have hS0:Bx W3 W2.heap.size 209 [.nilFunc,.int .i64 0,.int .i64 0,.nilFunc]:=by rw[<- hW3];exact Bx.new W2 209 _
  have s0:=(hS0.cell 0).trans rfl
  have s1:=(hS0.cell 1).trans rfl
  have s2:=(hS0.cell 2).trans rfl
  have s3:=(hS0.cell 3).trans rfl
  have fs0:=hS0.frozen 0
  have fs1:=hS0.frozen 1
  have fs2:=hS0.frozen 2
  have fs3:=hS0.frozen 3
  have hbS:Below W2.heap.size W2 ((((W3.setCell ⟨W2.heap.size,0,none⟩ .nilFunc).setCell ⟨W2.heap.size,1,none⟩ (.int .i64 0)).setCell ⟨W2.heap.size,2,none⟩ (.int .i64 0)).setCell ⟨W2.heap.size,3,none⟩ .nilFunc):=(((hb3.setCell (p:=⟨W2.heap.size,0,none⟩) (Nat.le_refl _) _).setCell (p:=⟨W2.heap.size,1,none⟩) (Nat.le_refl _) _).setCell (p:=⟨W2.heap.size,2,none⟩) (Nat.le_refl _) _).setCell (p:=⟨W2.heap.size,3,none⟩) (Nat.le_refl _) _
  have HH:=hid (bt hbw hbS)
  clear hS0 hb3 hbS hbw
  go_wp2
  go_ret
  exact⟨ret_bool HE.out.symm,HH.out⟩
end
section
open Go Go.RowKit
theorem dpK_pos (d:Nat->Nat)(ks:List Int):1<=dpK d ks:=by unfold dpK;omega
theorem dpt_pos {l:List Nd}{r:Int}(h:Snd l r):1<=dpt l r:=by
 rw[dpt_yes h]
 have h1:1<=l.length:=h.elim λ_ h=>h.1
 obtain⟨n,hn⟩:∃n,l.length=n+1:=⟨l.length-1,by omega⟩
 rw[hn]
 show 1<=(if n+1-1=n then dpK (dpL l n) (kidsAt l n) else dpL l n (n+1-1))
 rw[if_pos (by omega)]
 exact dpK_pos _ _
set_option maxRecDepth 100000 in
set_option maxHeartbeats 1500000 in
theorem right_any (A:Option Addr)(c n:Nat)(l:List Nd)(r:Int)(w:World)(hN:Nds w A l)(hn:n=l.length)(hk:∀x ∈ l,x.ks.length<=4000)(ht:∀x ∈ l,x.tx.size<=281474976710656)(hm:∀x ∈ l,x.n<=9223372036854775807):Calls Tryz.prog 103 #[.agg #[.slice A n c,.int .i64 r]] w (BPost (rgB l r) w):=by
 by_cases h:Snd l r
 ·have hb:Below w.heap.size w (w.alloc (.cells #[.slice A n c,.int .i64 r] 24)):=heap1 _ _
  obtain⟨W,hW⟩:∃W,w.alloc (.cells #[.slice A n c,.int .i64 r] 24)=W:=⟨_,rfl⟩
  have hB:Bx W w.heap.size 24 [.slice A n c,.int .i64 r]:=by rw[<- hW];exact Bx.new w 24 _
  rw[hW]at hb
  have HG:=hid (show rgB l r=(decide (dpt l r<=40)&&(decide ((nth l (l.length-1)).kd=1)&&shB l))by unfold rgB;rw[sndB_true h];rfl)
  have HD:=hid (λw' (h':Nds w' A l)=>depth_any A c n l r w' h' hn hk)
  have hsn:=snd_iff.1 h
  have hdp:=dpt_pos h
  have hn4:n<=4000:=by rw[hn];exact hsn.1.2.1
  have HSH:=hid (λw' (h':Nds w' A l) p (hp:p<n)=>shaped_any A c n p l r w' h' hn hk ht hm (λx hx k hkx=>by
   obtain⟨q,hq,e⟩:=List.getElem_of_mem hx
   have:=hsn.2.1 q hq k (by rw[kidsAt_eq hq,e];exact hkx)
   exact⟨k.toNat,by omega,by omega⟩) hp hn4)
  obtain⟨n',hn'⟩:∃n',n'=n-1:=⟨_,rfl⟩
  have hr:r=(n':Int):=by have:=hsn.1.2.2;have:=hsn.1.1;omega
  have hnn:n'<n:=by have:=hsn.1.1;omega
  have hnl:n'<l.length:=by omega
  have HNK:=hid (show(nth l (l.length-1)).kd=l[n'].kd by rw[show l.length-1=n' by omega,nth_eq hnl])
  have HL:=hid hn
  obtain⟨bA,off,rfl,hbA,hcA⟩:=hN (by omega)
  have hkd:=(hcA n' hnl).elim λK h=>h.elim λc h=>h.1
  have HN:=hid hN
  generalize l[n'].kd=kd at *
  generalize dpt l r=dp at *
  clear hcA hsn hn' h hn hN hk ht hm hnl
  subst hr
  have d0:=(hB.cell 0).trans rfl
  have d1:=(hB.cell 1).trans rfl
  go_enter Tryz.func103,Tryz.ntmps103
  go_wp2_with (go_at_call 34;refine(HD.out _ (HN.out.below hb)).mono ?_)
  rintro e w1 ⟨rfl,hb1⟩
  clear HD
  have hB1:=hB.below hb1 hB.lt
  have hbw:=bt hb hb1
  clear hB hb hb1 hW d0 d1
  have d0:=(hB1.cell 0).trans rfl
  have d1:=(hB1.cell 1).trans rfl
  have hkc:=(hbw.cell (p:=⟨bA,off+n'*5,none⟩) hbA).trans hkd
  have q0:((dp:Int)==0)=false:=by simp;omega
  by_cases g1:dp<=40
  ·have q1:decide ((40:Int)<(dp:Int))=false:=decide_eq_false (by omega)
   by_cases g2:kd=1
   ·subst g2
    have HE:=hid (show rgB l (n':Int)=shB l by rw[HG.out,HNK.out,decide_eq_true g1];rfl)
    clear HG HNK g1
    go_wp2
    clear d0 d1 hkc
    go_loopw [26] (λi wr=>∃p:Nat,p<=n/\i = .int .i64 (p:Int)/\(l.take p).all (ndB l)=true/\Bx wr w.heap.size 24 [.slice (some ⟨bA,off,none⟩) n c,.int .i64 (n':Int)]/\Below w.heap.size w wr) (λi _=>n-(intOf i).toNat)
    case atStart=>exact⟨0,Nat.zero_le _,rfl,rfl,hB1,hbw⟩
    case round=>
     clear hB1 hbw
     obtain⟨p,hp,rfl,hall,hB1,hbw⟩:=hrel
     have HA:=hid hall
     clear hall
     have d0:=(hB1.cell 0).trans rfl
     have d1:=(hB1.cell 1).trans rfl
     by_cases hlt:p<n
     ·have hlz:(p:Int)<(n:Int):=by omega
      have hpl:p<l.length:=by rw[<- HL.out];exact hlt
      have HTP:=hid (show l.take (p+1)=l.take p++[nth l p]by rw[nth_eq hpl];exact List.take_succ_eq_append_getElem hpl)
      have HNO:=hid (show ndB l (nth l p)=false->shB l=false from λh=>by
       unfold shB;rw[List.all_eq_false];exact⟨l[p],List.getElem_mem _,by rw[nth_eq hpl]at h;simp[h]⟩)
      have HC:=hid (HSH.out wr (HN.out.below hbw) p hlt)
      cases hv:ndB l (nth l p) with
      |true=>
       rw[hv]at HC
       have HV:=hid hv
       clear hv
       go_wp2_with (go_at_call 160;refine HC.out.mono ?_;rintro e w2 ⟨rfl,hb2⟩)
       go_roundw
       case rel=>
        refine⟨p+1,by omega,by go_num,?_,hB1.below hb2 hB1.lt,bt hbw hb2⟩
        rw[HTP.out,List.all_append,HA.out]
        simp[HV.out]
       case measure=>simp[intOf];omega
      |false=>
       rw[hv]at HC
       have HV:=hid (HNO.out hv)
       clear hv
       go_wp2_with (go_at_call 160;refine HC.out.mono ?_;rintro e w2 ⟨rfl,hb2⟩)
       go_ret
       exact⟨ret_bool (by rw[HE.out,HV.out]),bt hbw hb2⟩
     ·obtain rfl:p=n:=by omega
      have hlz:¬(p:Int)<(p:Int):=by omega
      have HV:=hid (show shB l=true by
       have:=HA.out
       rw[List.take_of_length_le (by rw[<- HL.out];exact Nat.le_refl _)]at this
       exact this)
      go_wp2
      go_ret
      exact⟨ret_bool (by rw[HE.out,HV.out]),hbw⟩
   ·have q2:(kd != 1)=true:=by simpa using g2
    have HE:=hid (show rgB l (n':Int)=false by rw[HG.out,HNK.out,decide_eq_false g2];simp)
    clear HG HNK g1 g2
    go_wp2
    go_ret
    exact⟨ret_bool HE.out.symm,hbw⟩
  ·have q1:decide ((40:Int)<(dp:Int))=true:=decide_eq_true (by omega)
   have HE:=hid (show rgB l (n':Int)=false by rw[HG.out,decide_eq_false g1];rfl)
   clear HG HNK g1
   go_wp2
   go_ret
   exact⟨ret_bool HE.out.symm,hbw⟩
 ·have HE:rgB l r=false:=by unfold rgB;rw[sndB_false h];rfl
  rw[HE]
  exact right_no A c n l r w hN hn hk h
end
end Go.Proofs.YtedkgofehbecmaaGreatDoor.Tr
