/- PROVED: Pr Xe Psh Xf Xg Xh Xi Xj Xk Xl Xm Xn Xo Xp Xq Xr Xs Ya Xt. No more condition. -/
import Derived.Test.YteecfjhjllajlaaGreatDoorG07
import Derived.Test.YteecfjhjllajlaaGreatDoorG03
import Derived.Shelf.LaysM
import Derived.Shelf.Strings.Repeat
import Derived.Lib.AppendIntMem
import Derived.Laws.EntriesVeiled
import Derived.Lib.ItoaLen
namespace Go.Proofs.YteecfjhjllajlaaGreatDoor
open Go.Lib (hid)
open Go Go.RowKit
section
set_option maxHeartbeats 1500000
set_option maxRecDepth 100000
section
open Tr (Bx ag bt ak aB aa av)
theorem jM {ts:List Tok}{o:Prop}{s s':St}{m n:Nat}{r:Rs}{v:List Int}(h:aS ts o s m n r)(hr:r=.ok v s'):s.nx+m<=s'.nx/\s'.nx<ts.length/\s'.op=n:=by rw[hr]at h;exact h
def MH (ts:List Tok)(rec:oW->St->Rs):Prop:=∀(X:Nat->Prop) (w:World) (base g:Nat) (A:Option Addr) (c:Nat) (V:Value) (s:St),Pz X w base g A c ts V s ->
 (rec .una s ≠ .out->Calls Tryz.prog 253 #[.pointer (some ⟨g,0,none⟩)] w (az X base g A c ts V w (rec .una s))) /\
 (∀r:Nat,1<=r->r<=6->rec (.bin r) s ≠ .out->Calls Tryz.prog 215 #[.pointer (some ⟨g,0,none⟩),.int .i64 (r:Int)] w (az X base g A c ts V w (rec (.bin r) s))) /\
 (rec .stmt s ≠ .out->Calls Tryz.prog 241 #[.pointer (some ⟨g,0,none⟩)] w (az X base g A c ts V w (rec .stmt s))) /\
 (∀pl:Int,1<=s.op->rec (.stmts pl []) s ≠ .out->Calls Tryz.prog 173 #[.pointer (some ⟨g,0,none⟩),.int .i64 pl] w (az X base g A c ts V w (rec (.stmts pl []) s)))
structure Rz (ts:List Tok) (rec:oW->St->Rs):Prop where
 nk:CJ rec
 ok:BR ts True 0 rec
 z:MH ts rec
theorem nZ {ts:List Tok}{rec:oW->St->Rs}(hZ:Rz ts rec){s s':St}{v:List Int}(h:s.nx<ts.length)(e:bT rec s=.ok v s'):s.nx+1<=s'.nx/\s'.nx<ts.length/\s'.op=s.op:=jM ((hZ.ok s h).2.1 1 (by omega) (by omega) (.inl trivial)) e
theorem lH {ts:List Tok}(ht:nT ts){s s':St}{v:List Int}{x:List UInt8}(hx:x≠[])(h:s.nx<ts.length)(e:ja ts x s=.ok v s'):s.nx+1<=s'.nx/\s'.nx<ts.length/\s'.op=s.op+1:=jM (lC (o:=True) h ht x hx) e
theorem gZ {X:Nat->Prop}{w:World}{base g c:Nat}{A:Option Addr}{ts:List Tok}{V:Value}{s:St}{rec:oW->St->Rs}(hZ:Rz ts rec)(h:Pz X w base g A c ts V s)(hne:bT rec s ≠ .out):Calls Tryz.prog 138 #[.pointer (some ⟨g,0,none⟩)] w (az X base g A c ts V w (bT rec s)):=by
 have HC:=hid ((hZ.z X w base g A c V s h).2.1 1 (by omega) (by omega) hne);change Hid (Calls _ _ _ _ (az _ _ _ _ _ _ _ _ (bT rec s)))at HC;generalize bT rec s=R at *
 clear h hZ hne;go_enter Tryz.func138,Tryz.ntmps138
 go_wp2_with (go_at_call 215;refine(HC.out).mono ?_;rintro e w3 (⟨p,er,hr,rfl,hF⟩ |⟨x,s3,V3,hr,rfl,hz3,hF3⟩)<;>replace hr:=hid hr)
 ·exact⟨rfl,.inl ⟨p,er,hr.out,rfl,hF⟩⟩
 ·go_ret
  exact .inr ⟨x,s3,V3,hr.out,rfl,hz3,hF3⟩
theorem zA {X:Nat->Prop}{w:World}{base g c:Nat}{A:Option Addr}{ts:List Tok}{V:Value}{s:St}{rec:oW->St->Rs}(hZ:Rz ts rec)(h:Pz X w base g A c ts V s)(hne:nQ ts rec s ≠ .out):Calls Tryz.prog 298 #[.pointer (some ⟨g,0,none⟩)] w (az X base g A c ts V w (nQ ts rec s)):=by
 obtain⟨R,HR⟩:∃R,R=nQ ts rec s:=⟨_,rfl⟩;rw[<- HR]at hne |-;unfold nQ at HR;have HB:=hid (jE h [91] (by decide));have HK:=hid (And.intro HR (And.intro hne (And.intro h.ok (And.intro h.px.nx hZ))));clear HR hne h hZ;go_enter Tryz.func298,Tryz.ntmps298
 go_wp2_with (first|(go_at_call 172;refine(HB.out).mono ?_;rintro e w1 (⟨p,er,hr,rfl,hF⟩ |⟨s1,hr1,rfl,hz1,hF1⟩)<;>first|replace hr1:=hid hr1 |replace hr:=hid hr) |(go_at_call 138;refine(gZ HK.out.2.2.2.2 hz1 (Rs.step_in (Rs.step HK.out.1 hr1.out) HK.out.2.1)).mono ?_;rintro e w2 (⟨p,er,hr,rfl,hF⟩ |⟨x,s2,V2,hr2,rfl,hz2,hF2⟩)<;>first|replace hr2:=hid hr2 |replace hr:=hid hr) |(go_at_call 239;refine(jh hz2 [93] (by decide) (by have a:=lH HK.out.2.2.1 (by decide) HK.out.2.2.2.1 hr1.out;have b:=nZ HK.out.2.2.2.2 a.2.1 hr2.out;omega)).mono ?_;rintro e w3 (⟨p,er,hr,rfl,hF⟩ |⟨s3,hr3,rfl,hz3,hF3⟩)<;>first|replace hr3:=hid hr3 |replace hr:=hid hr))
 ·exact⟨rfl,.inl ⟨p,er,Rs.step_no HK.out.1 hr.out,rfl,hF⟩⟩
 ·exact⟨rfl,.inl (ah hF1 (Rs.step_no (Rs.step HK.out.1 hr1.out) hr.out) hF)⟩
 ·exact⟨rfl,.inl (ah (hF1.trans hF2) (Rs.step_no (Rs.step (Rs.step HK.out.1 hr1.out) hr2.out) hr.out) hF)⟩
 ·go_ret
  exact .inr ⟨x,s3,V2,(Rs.step (Rs.step (Rs.step HK.out.1 hr1.out) hr2.out) hr3.out :),rfl,hz3,(hF1.trans hF2).trans hF3⟩
theorem dZ (w:World)(a b:Obj):Below w.heap.size w ((w.alloc a).alloc b):=bt (ag w a) (ag _ b)
theorem Pz.box {X:Nat->Prop}{w w':World}{base g c:Nat}{A:Option Addr}{ts:List Tok}{V V':Value}{s:St}{t:TypeId}{l:List Value}(h:Pz X w base g A c ts V s)(f:Fo (w.alloc (.cells l.toArray t)) w' g V V'):Bx w' w.heap.size t l/\V'.ownBlock≠some w.heap.size:=f.bx (Bx.new w t l) h.new.1 h.new.2
theorem Pz.shut {X:Nat->Prop}{w:World}{base g c:Nat}{A:Option Addr}{ts:List Tok}{V:Value}{s:St}(h:Pz X w base g A c ts V s)(ho:1<=s.op):Pz X (w.setCell ⟨g,3,none⟩ (.int .i64 ((s.op:Int)-1))) base g A c ts V {s with op:=s.op-1}/\Fo w (w.setCell ⟨g,3,none⟩ (.int .i64 ((s.op:Int)-1))) g V V:=by
 have hF:Fr (λb=>b=g) w (w.setCell ⟨g,3,none⟩ (.int .i64 ((s.op:Int)-1))):=Fr.set (E:=λb=>b=g) (Fr.refl _ _) rfl _;have hE:=h.px.box.set_ 3 (.int .i64 ((s.op:Int)-1));simp only[List.set_cons_zero,List.set_cons_succ]at hE;have h40:=h.h40;have hop:=h.px.op;refine⟨h.move hF (h.px.to hF ?_ h.px.nx (by show s.op-1<=100000;omega) h.px.mo) rfl (Nat.le_refl _) (by show s.op-1<=40/\s.mo<=40;omega),Fo.box hF⟩;have e:((s.op:Int)-1)=((s.op-1:Nat):Int):=by omega
 rw[e]at hE |-;exact hE
theorem zB {X:Nat->Prop}{w:World}{base g c:Nat}{A:Option Addr}{ts:List Tok}{V:Value}{s:St}(h:Pz X w base g A c ts V s)(hs:(ai ts s).s≠[]):Calls Tryz.prog 293 #[.pointer (some ⟨g,0,none⟩)] w (az X base g A c ts V w (bX 21 (if (ai ts s).s=gu then 1 else 0) (ai ts s).p [] [] (ax s))):=by
 have hk:Nk s 0 (bX 21 (if (ai ts s).s=gu then 1 else 0) (ai ts s).p [] [] (ax s)):=(bZ (bF _ _ _ _ _ _)).weak (by omega);obtain⟨R,HR⟩:∃R,R=bX 21 (if (ai ts s).s=gu then 1 else 0) (ai ts s).p [] [] (ax s):=⟨_,rfl⟩;rw[<- HR]at hk |-;have HT:=hid (eG h (.inr hs));have hn:=h.hn;have HA:=hid (λ(w':World) (n:Int) (q:Pz X w' base g A c ts V (ax s)) (e:(if (ai ts s).s=gu then (1:Int) else 0)=n)=>jY q 21 n ((ai ts s).p:Int) [] none none 0 0 0 0 [] (lG _ _) ⟨rfl,Nat.le_refl _⟩ (HR.trans (by rw[e];rfl)) hk hn);generalize ai ts s=t at *
 clear hk h hs HR hn;unfold aJ at *
 by_cases q:t.s=gu
 ·have he:((bs t.s).toList==[116,114,117,101])=true:=by rw[aj,q];rfl
  have HQ:=hid (if_pos q:(if t.s=gu then (1:Int) else 0)=1);clear q;go_enter Tryz.func293,Tryz.ntmps293
  go_wp2_with (first|(go_at_call 164;refine HT.out.mono ?_;rintro e w1 ⟨rfl,hz1,hF1⟩) |(go_at_call 106;refine(HA.out _ 1 (hz1.below (dZ _ _ _)) HQ.out).mono ?_;rintro e w3 (⟨p,er,hr,rfl,hF⟩ |⟨x,s3,V3,hr,rfl,hz,hF⟩)<;>replace hr:=hid hr))
  ·exact⟨rfl,.inl (ah (hF1.trans (Fo.below (dZ _ _ _))) hr.out hF)⟩
  ·go_ret
   exact .inr ⟨x,s3,V3,hr.out,rfl,hz,(hF1.trans (Fo.below (dZ _ _ _))).trans hF⟩
 ·have he:((bs t.s).toList==[116,114,117,101])=false:=by rw[aj];simpa [gu]using q
  have HQ:=hid (if_neg q:(if t.s=gu then (1:Int) else 0)=0);clear q;go_enter Tryz.func293,Tryz.ntmps293
  go_wp2_with (first|(go_at_call 164;refine HT.out.mono ?_;rintro e w1 ⟨rfl,hz1,hF1⟩) |(go_at_call 106;refine(HA.out _ 0 (hz1.below (dZ _ _ _)) HQ.out).mono ?_;rintro e w3 (⟨p,er,hr,rfl,hF⟩ |⟨x,s3,V3,hr,rfl,hz,hF⟩)<;>replace hr:=hid hr))
  ·exact⟨rfl,.inl (ah (hF1.trans (Fo.below (dZ _ _ _))) hr.out hF)⟩
  ·go_ret
   exact .inr ⟨x,s3,V3,hr.out,rfl,hz,(hF1.trans (Fo.below (dZ _ _ _))).trans hF⟩
theorem wC {X:Nat->Prop}{w:World}{base g c:Nat}{A:Option Addr}{ts:List Tok}{V:Value}{s:St}{rec:oW->St->Rs}(hZ:Rz ts rec)(h:Pz X w base g A c ts V s)(hs:(ai ts s).s≠[])(hne:jB ts rec s ≠ .out):Calls Tryz.prog 292 #[.pointer (some ⟨g,0,none⟩)] w (az X base g A c ts V w (jB ts rec s)):=by
 have hk:Nk s 0 (jB ts rec s):=zw ts hZ.nk s;obtain⟨R,HR⟩:∃R,R=jB ts rec s:=⟨_,rfl⟩;rw[<- HR]at hk hne |-;unfold jB at HR;dsimp only at HR;have hf:=aM (ai ts s);have HC:=hid (aZ h);have HB:=hid (λw' (q:Below w.heap.size w w')=>jE (h.below q) (ai ts s).s hs);have HO:=hid (λv' s' (q:ja ts (ai ts s).s s=.ok v' s')=>lH h.ok hs h.px.nx q);have HK:=hid (And.intro HR (And.intro hne (And.intro hk (And.intro h.hn hZ))));generalize hv:aJ (ai ts s)=v at hf HC;generalize ai ts s=t at *
 clear hs HR hne hk h hZ;unfold aJ at HB;clear hv;go_enter Tryz.func292,Tryz.ntmps292
 go_wp2_with (first|(go_at_call 167;refine HC.out.mono ?_;rintro e w1 ⟨rfl,hb1⟩) |(go_at_call 172;refine(HB.out _ hb1).mono ?_;rintro e w2 (⟨p,er,hr,rfl,hF⟩ |⟨s1,hr1,rfl,hz2,hF2⟩)<;>first|replace hr1:=hid hr1 |replace hr:=hid hr) |(go_at_call 253;refine((HK.out.2.2.2.2.z X _ base g A c V s1 (hz2.below (ag _ _))).1 (Rs.step_in (Rs.step HK.out.1 hr1.out) HK.out.2.1)).mono ?_))
 ·exact⟨rfl,.inl (ah (Fo.below hb1) (Rs.step_no HK.out.1 hr.out) hF)⟩
 rintro e w3 (⟨p,er,hr,rfl,hF⟩ |⟨x,s2,V2,hr2,rfl,hz3,hF3⟩)<;>first|replace hr2:=hid hr2 |replace hr:=hid hr
 ·exact⟨rfl,.inl (ah (((Fo.below hb1).trans hF2).trans (Fo.below (ag _ _))) (Rs.step_no (Rs.step HK.out.1 hr1.out) hr.out) hF)⟩
 ·have hop:1<=s2.op:=by
   have a:=HO.out _ _ hr1.out;have b:=jM ((HK.out.2.2.2.2.ok s1 a.2.1).1 (.inl trivial)) hr2.out;omega
  have HR2:=Rs.step (Rs.step HK.out.1 hr1.out) hr2.out;obtain⟨hz4,hF4⟩:=hz3.shut hop;have hT:=(hz2.box hF3).1;have d3:=(hz3.px.box.cell 3).trans rfl;have fd3:=hz3.px.box.frozen 3;have hT4:=hT.far (p:=⟨g,3,none⟩) hz2.new.1 (.int .i64 ((s2.op:Int)-1));obtain⟨W4,hW4⟩:∃W4,w3.setCell ⟨g,3,none⟩ (.int .i64 ((s2.op:Int)-1))=W4:=⟨_,rfl⟩;rw[hW4]at hz4 hF4 hT4;have t2:=(hT4.cell 2).trans rfl;have t3:=(hT4.cell 3).trans rfl;have HA:=hid (pE hz4 26 0 (t.p:Int) t.s none 0 0 x HR2 HK.out.2.2.1 HK.out.2.2.2.1);have HF:=hid ((((Fo.below hb1).trans hF2).trans (Fo.below (V:=V) (ag _ _))).trans (hF3.trans hF4));have hopz:=hz3.px.op;clear hT hT4 hz2 hz3 hF2 hF3 hz4 hF4 HR2 hr1 hr2;go_wp2_with (go_at_call 106;refine(HA.out).mono ?_;rintro e w4 (⟨p,er,hr,rfl,hF⟩ |⟨x4,s4,V4,hr,rfl,hz,hF⟩)<;>first|replace hr:=hid hr |replace hr:=hid hr)
  ·exact⟨rfl,.inl (ah HF.out hr.out hF)⟩
  ·go_ret
   exact .inr ⟨_,s4,V4,hr.out,rfl,hz,HF.out.trans hF⟩
end
section
open Tr (Bx ag bt ak aB aa av)
def Own (F:Nat):Prop:=∃fn,Tryz.prog.funcs[F]?=some fn/\(fn.name == "runtime.NumGoroutine")=false/\fn.body.isNone=false
theorem nO {F:Nat}(h:Own F)(args:Array Value)(w:World):(callFunc F args).run Tryz.prog w=.ok (.enter F args) w:=by
 obtain⟨fn,h1,h2,h3⟩:=h;simp only[callFunc,Sem.run_bind,run_program,Result.andThen_ok,h1,h2,h3,Bool.false_eq_true,if_false,Sem.run_pure]
theorem mJ:Own 106:=⟨_,Tryz.func106,by kernel_rfl,by kernel_rfl⟩
theorem zC:Own 138:=⟨_,Tryz.func138,by kernel_rfl,by kernel_rfl⟩
theorem IM:Own 298:=⟨_,Tryz.func298,by kernel_rfl,by kernel_rfl⟩
theorem IP:Own 300:=⟨_,Tryz.func300,by kernel_rfl,by kernel_rfl⟩
theorem IQ:Own 273:=⟨_,Tryz.func273,by kernel_rfl,by kernel_rfl⟩
theorem Ho:Own 173:=⟨_,Tryz.func173,by kernel_rfl,by kernel_rfl⟩
theorem wD (k n:Int)(s:ByteArray)(w:World):(Instr.build 37 #[(0,.int .i64 k),(3,.string s),(2,.int .i64 n)]).run Tryz.prog w=.ok (.agg #[.int .i64 k,.int .i64 0,.int .i64 n,.string s,.slice none 0 0]) w:=by kernel_rfl
section
variable {ops:Array Oper} {Q:Exit->Act->World->Prop} {S:World->Prop} {fuel:Nat} {listed:Array Bool} {a:Act} {w:World} {o:Oper}
theorem bv (i:Nat)(o:Oper){F:Nat}{xs:Array Operand}{ts:Array TypeId}{args:Array Value}{C:Ending->World->Prop}(hF:Own F)(ho:o.op=.call {callee :=.value (.func F),args:=xs,argTypes:=ts})(hi:ops[i]?=some o)(hr:Region.ready .any ops listed=[i])
  (hw:Region.wanted o (yielded ops a.tmps)=true) (ha':(xs.toList.map a.eval).toArray=args) (hc:Calls Tryz.prog F args w C)
  (h:∀e w',C e w'->(∃ch,e=.panicked ch/\Q (.panic ch) a w')\/∃v,e=.returned v/\S w'/\wpAnyH Tryz.prog .any ops Q S fuel (listed.setIfInBounds i true) (a.put o.dst v) w'):wpAnyH Tryz.prog .any ops Q S (fuel+1) listed a w:=
 bR i o hi hr hw (by
  have ha:xs.map a.eval=args:=by rw[<- ha'];exact Array.ext' (by rw[Array.toList_map])
  unfold Oper.wp execOp
  have e:a.eval (.func F)=.func (.func F) #[] #[]:=rfl
  have e2:(#[]++args:Array Value) ++ #[]=args:=by simp
  simp only[ho,resolve,e,ha,Deferred.ofValue,invoke,Sem.run_bind,Sem.run_pure,Result.andThen_ok]
  rw[e2,nO hF]
  exact hc.mono λe w' hC=>by
   rcases h e w' hC with⟨ch,rfl,hq⟩ |⟨v,rfl,hq⟩
   ·exact hq
   ·exact hq)
theorem cZ {x:Operand}{v:Value}(ho:o.op=.assign x)(hx:a.eval x=v):∀w,S w->(execOp a.eval o).run Tryz.prog w=.ok (.value v) w:=λw _=>by unfold execOp;simp only[ho,hx,Sem.run_pure]
theorem tO {k:Int}{x y:Operand}{s:ByteArray}{n:Int}(ho:o.op=.build 37 #[(0,.const (.int .i64 k)),(3,x),(2,y)])(hx:a.eval x=.string s)(hy:a.eval y=.int .i64 n):∀w,S w->(execOp a.eval o).run Tryz.prog w=.ok (.value (.agg #[.int .i64 k,.int .i64 0,.int .i64 n,.string s,.slice none 0 0])) w:=λw _=>by
 have hc:a.eval (.const (.int .i64 k))=.int .i64 k:=rfl;unfold execOp;simp only[ho,List.map_toArray,List.map_cons,List.map_nil,hx,hy,hc,Sem.run_bind,wD,Sem.run_pure,Result.andThen_ok]
theorem jN {K:Act->World->Prop}{x:Operand}{u:Int}(ho:o.op=.buildSlice 35 1 #[(0,x)])(hx:a.eval x=.int .i64 u)
  (h:K (a.put o.dst (.slice (some ⟨w.heap.size,0,none⟩) 1 1)) (w.alloc (.cells #[.int .i64 u] 3))):o.wp Tryz.prog a w K Q:=by
 unfold Oper.wp execOp;simp only[ho,List.map_toArray,List.map_cons,List.map_nil,hx];simp[go_sem];exact h
theorem IR {K:Act->World->Prop}{x y:Operand}{u v:Int}(ho:o.op=.buildSlice 35 2 #[(0,x),(1,y)])(hx:a.eval x=.int .i64 u)(hy:a.eval y=.int .i64 v)
  (h:K (a.put o.dst (.slice (some ⟨w.heap.size,0,none⟩) 2 2)) (w.alloc (.cells #[.int .i64 u,.int .i64 v] 3))):o.wp Tryz.prog a w K Q:=by
 unfold Oper.wp execOp;simp only[ho,List.map_toArray,List.map_cons,List.map_nil,hx,hy];simp[go_sem];exact h
end
theorem aT {w:World}{ad:Addr}{n:Int}(h:w.cell? ad=some (.int .i64 n)):(Instr.loadAt 3 (.pointer (some ad))).run Tryz.prog w=.ok (.int .i64 n) w:=by simp[go_sem,h]
theorem g_ {w:World}{ad:Addr}{s:ByteArray}(h:w.cell? ad=some (.string s)):(Instr.loadAt 9 (.pointer (some ad))).run Tryz.prog w=.ok (.string s) w:=by simp[go_sem,h]
theorem mK (b:Nat)(w:World):(Instr.fieldAt 105 (.pointer (some ⟨b,0,none⟩)) 2).run Tryz.prog w=.ok (.pointer (some ⟨b,2,none⟩)) w:=by kernel_rfl
theorem mM (b:Nat)(w:World):(Instr.fieldAt 105 (.pointer (some ⟨b,0,none⟩)) 3).run Tryz.prog w=.ok (.pointer (some ⟨b,3,none⟩)) w:=by kernel_rfl
theorem yA {X:Nat->Prop}{w:World}{base g c:Nat}{A:Option Addr}{ts:List Tok}{V:Value}{s:St}{rec:oW->St->Rs}(hZ:Rz ts rec)(h:Pz X w base g A c ts V s)(hne:jS ts rec s ≠ .out):Calls Tryz.prog 291 #[.pointer (some ⟨g,0,none⟩)] w (az X base g A c ts V w (jS ts rec s)):=by
 have hk:Nk s 0 (jS ts rec s):=zu ts hZ.nk s;obtain⟨R,HR⟩:∃R,R=jS ts rec s:=⟨_,rfl⟩;rw[<- HR]at hk hne |-;unfold jS at HR;dsimp only at HR;have HC:=hid (ni h);have HZ:=hid hZ;have hn:=h.hn;generalize ai ts s=t at *
 unfold aJ at HC;have HK:=hid (And.intro HR (And.intro hne (And.intro hk hn)));clear HR hne hk h hZ hn;go_enter Tryz.func291,Tryz.ntmps291
 go_wp2_with (go_at_call 168;refine HC.out.mono ?_);rintro e w1 (⟨p,er,hr,rfl,hF⟩ |⟨s1,hr1,rfl,hz1,hF1⟩)<;>first|replace hr1:=hid hr1 |replace hr:=hid hr
 ·go_wp2;exact⟨rfl,.inl ⟨p,er,Rs.step_no HK.out.1 hr.out,rfl,hF⟩⟩
 have HR1:=Rs.step HK.out.1 hr1.out;obtain⟨W2,hW2⟩:∃W2,w1.alloc (.cells #[.int .i64 (t.k:Int),.int .i64 t.n,.int .i64 (t.p:Int),.string (bs t.s)] 105)=W2:=⟨_,rfl⟩;have hb2:Below w1.heap.size w1 W2:=by rw[<- hW2];exact ag _ _
 have hT:Bx W2 w1.heap.size 105 [.int .i64 (t.k:Int),.int .i64 t.n,.int .i64 (t.p:Int),.string (bs t.s)]:=by rw[<- hW2];exact Bx.new w1 105 _
 have hz2:=hz1.below hb2;have hne0:=hz1.new;have hF2:Fo w W2 g V V:=hF1.trans (Fo.below hb2);have HS:=hid (fV hz2 [91]);cases hq:sees ts [91] s1 with
 |false=>
  rw[hq]at HS HR1;rw[if_neg (by decide)]at HR1;have HX:=hid (And.intro HR1 (And.intro hz2 (And.intro hF2 hT)));clear HR1 hz2 hF2 hz1 hF1 hT hb2;go_wp2_with (go_at_call 103;refine HS.out.mono ?_);rintro e w3 ⟨rfl,hb3⟩;obtain⟨HR1,hz2,hF2,hT⟩:=HX.out;have hT3:=hT.below hb3 hT.lt;have t2:=(hT3.cell 2).trans rfl;have t3:=(hT3.cell 3).trans rfl;have HA:=hid (jY (hz2.below hb3) 22 0 (t.p:Int) t.s none none 0 0 0 0 [] (lG _ _) ⟨rfl,Nat.le_refl _⟩ HR1 HK.out.2.2.1 HK.out.2.2.2);have HF:=hid (hF2.trans (Fo.below (V:=V) hb3));clear HR1 hz2 hF2 hT hT3;go_wp2_with (go_at_call 106;refine(HA.out).mono ?_;rintro e w3 (⟨p,er,hr,rfl,hF⟩ |⟨x,s3,V3,hr,rfl,hz,hF⟩)<;>replace hr:=hid hr)
  ·exact⟨rfl,.inl (ah HF.out hr.out hF)⟩
  ·go_ret
   exact .inr ⟨x,s3,V3,hr.out,rfl,hz,HF.out.trans hF⟩
 |true=>
  rw[hq]at HS HR1;rw[if_pos rfl]at HR1;have HX:=hid (And.intro HR1 (And.intro hz2 (And.intro hF2 hT)));clear HR1 hz2 hF2 hz1 hF1 hT hb2;go_wp2_with (go_at_call 103;refine HS.out.mono ?_);rintro e w3 ⟨rfl,hb3⟩;obtain⟨HR1,hz2,hF2,hT⟩:=HX.out;have hT3:=hT.below hb3 hT.lt;have hz3:=hz2.below hb3;have HF:=hid (hF2.trans (Fo.below (V:=V) (cO hb3)));have HI:=hid (λw' (q:Pz X w' base g A c ts V s1)=>zA HZ.out q (Rs.step_in HR1 HK.out.2.1));have HN:=hid (λ(p er:Nat) (q:nQ ts rec s1=.no p er)=>Rs.step_no HR1 q);have HA:=hid (λw' V' x (s2:St) (q:Pz X w' base g A c ts V' s2) (q2:nQ ts rec s1=.ok [x] s2)=>pE q 23 0 (t.p:Int) t.s none 0 0 x (Rs.step HR1 q2 :) HK.out.2.2.1 HK.out.2.2.2);have hS:Bx {w3 with drawn:=w3.drawn+1} w1.heap.size 105 [.int .i64 (t.k:Int),.int .i64 t.n,.int .i64 (t.p:Int),.string (bs t.s)]:=hT3;have hz3:Pz X {w3 with drawn:=w3.drawn+1} base g A c ts V s1:=hz3.below (cO (Below.refl _ _));clear HR1 hz2 hF2 hT hT3 HX;have HX3:=hid (And.intro hS (And.intro hz3 hne0));clear hS hz3 hne0
  go_upto_region 3 with(fail)
  obtain⟨hS,hz3,hne⟩:=HX3.out;refine wp_region_held (S:=λw'=>Bx w' w1.heap.size 105 [.int .i64 (t.k:Int),.int .i64 t.n,.int .i64 (t.p:Int),.string (bs t.s)]) (by kernel_rfl) ?_;refine bf 0 (.pointer (some ⟨g,0,none⟩)) (by kernel_rfl) rfl rfl (λ_ _ _ h=>h) rfl (aP rfl rfl) hS ?_;simp only[ap];refine bf 1 (.pointer (some ⟨w1.heap.size,3,none⟩)) (by kernel_rfl) rfl rfl (λ_ _ _ h=>h) rfl (aV rfl rfl (mM _)) hS ?_;simp only[ap];refine bf 2 (.string (bs t.s)) (by kernel_rfl) rfl rfl (λ_ _ _ h=>h) rfl (aO rfl rfl (λw' q=>g_ ((q.cell 3).trans rfl))) hS ?_;simp only[ap];refine bf 3 (.pointer (some ⟨w1.heap.size,2,none⟩)) (by kernel_rfl) rfl rfl (λ_ _ _ h=>h) rfl (aV rfl rfl (mK _)) hS ?_;simp only[ap];refine bf 4 (.int .i64 (t.p:Int)) (by kernel_rfl) rfl rfl (λ_ _ _ h=>h) rfl (aO rfl rfl (λw' q=>aT ((q.cell 2).trans rfl))) hS ?_;simp only[ap];refine bf 5 (.agg #[.int .i64 23,.int .i64 0,.int .i64 (t.p:Int),.string (bs t.s),.slice none 0 0]) (by kernel_rfl) rfl rfl (λ_ _ _ h=>h) rfl (tO rfl rfl rfl) hS ?_;simp only[ap];refine bf 6 (.pointer (some ⟨g,0,none⟩)) (by kernel_rfl) rfl rfl (λ_ _ _ h=>h) rfl (aP rfl rfl) hS ?_;simp only[ap]
  refine bv 7 ({dst:=some 15,op:=Op.call {callee:=Callee.value (Operand.func 298),args := #[Operand.tmp 14],argTypes := #[59]},type:=3,pos := "grammar.go:288",after := #[{on:=6,ground:=Ground.data}],guard:=none}:Oper) (args := #[.pointer (some ⟨g,0,none⟩)]) IM rfl rfl (by kernel_rfl) rfl rfl (HI.out _ hz3) ?_;rintro e w4 (⟨p,er,hr,rfl,hF⟩ |⟨x,s2,V2,hr,rfl,hz4,hF4⟩)
  ·exact .inl ⟨_,rfl,rfl,.inl (ah HF.out (HN.out _ _ hr) hF)⟩
  refine .inr ⟨_,rfl,(hF4.bx hS hne.1 hne.2).1,?_⟩;have hne4:=(hF4.bx hS hne.1 hne.2).2;have hS4:=(hF4.bx hS hne.1 hne.2).1;simp only[ap];refine bR 8 ({dst:=some 16,op:=Op.buildSlice 35 1 #[(0,Operand.tmp 15)],type:=35,pos := "grammar.go:288",after := #[{on:=7,ground:=Ground.data}],guard:=none}:Oper) rfl (by kernel_rfl) rfl (jN rfl rfl ⟨hS4.alloc _,?_⟩);simp only[ap];refine bv 9 ({dst:=some 17,op:=Op.call {callee:=Callee.value (Operand.func 106),args := #[Operand.tmp 8,Operand.tmp 13,Operand.tmp 16],argTypes := #[59,37,35]},type:=3,pos := "grammar.go:288",after := #[{on:=0,ground:=Ground.data},{on:=5,ground:=Ground.data},{on:=8,ground:=Ground.data},{on:=7,ground:=Ground.chain}],guard:=none}:Oper) (args := #[.pointer (some ⟨g,0,none⟩),.agg #[.int .i64 23,.int .i64 0,.int .i64 (t.p:Int),.string (bs t.s),.slice none 0 0],.slice (some ⟨w4.heap.size,0,none⟩) 1 1]) mJ rfl rfl (by kernel_rfl) rfl rfl (HA.out _ _ _ _ hz4 hr) ?_;rintro e w5 (⟨p,er,hr,rfl,hF⟩ |⟨x5,s5,V5,hr,rfl,hz5,hF5⟩)
  ·exact .inl ⟨_,rfl,rfl,.inl (ah (HF.out.trans hF4) hr hF)⟩
  have hS5:=(hF5.bx hS4 hne.1 hne4).1;refine .inr ⟨_,rfl,hS5,?_⟩;simp only[ap];refine bf 10 (.int .i64 x5) (by kernel_rfl) rfl rfl (λ_ _ _ h=>h) rfl (cZ rfl rfl) hS5 ?_;simp only[ap];refine wpAnyH_done (by kernel_rfl) ?_ _;have hr5:=hid hr;clear hr;go_wp2
  go_ret
  exact .inr ⟨_,s5,V5,hr5.out,rfl,hz5,(HF.out.trans hF4).trans hF5⟩
end
end
section
open Tr (Bx ag bt bu Ints)
theorem qd (b o n c i:Nat)(hi:i<n)(w:World):(Instr.indexAt 35 (.slice (some ⟨b,o,none⟩) n c) (.int .i64 (i:Int))).run Tryz.prog w=.ok (.pointer (some ⟨b,o+i,none⟩)) w:=by
 have h:(i:Int)<(n:Int):=by omega
 simp[go_sem,Tryz.underlying35,h,Addr.add]
def SP (g2 g3:Nat)(PB NB:List Value)(bk ok:Nat)(k:Int)(w:World):Prop:=Bx w g2 73 PB/\Bx w g3 37 NB/\w.cell? ⟨bk,ok,none⟩=some (.int .i64 k)
theorem SP.kp {B b g2 g3 bk ok:Nat}{PB NB:List Value}{k:Int}{w w':World}(h:SP g2 g3 PB NB bk ok k w)(q:Kp B b w w')(h2:g2≠b)(h3:g3≠b)(hk:bk<B):SP g2 g3 PB NB bk ok k w':=
 ⟨Bx.kp h.1 q h2 (by decide),Bx.kp h.2.1 q h3 (by decide),(Below.cell q.1 (p:=⟨bk,ok,none⟩) hk).trans h.2.2⟩
end
end Go.Proofs.YteecfjhjllajlaaGreatDoor
namespace Go.Proofs
open Go.Lib (hid)
open Go Go.RowKit
section
open Go.Shelf
end
end Go.Proofs
namespace Go.Proofs.YteecfjhjllajlaaGreatDoor
open Go.Lib (hid)
open Go Go.RowKit
section
open Tr (Bx ag bt bu Ints)
theorem Pg.below {B b:Nat}{t:List UInt8}{w w':World}(h:Pg B b t w)(hb:Below w.heap.size w w'):Pg B b t w':=by
 have aux:∀p,Lib.BuilderAtF 118 5 B b p (Lib.byteCells t) w->Lib.BuilderAtF 118 5 B b p (Lib.byteCells t) w':=λp q=>by
  have hlt:=uK q;obtain⟨hB,v,hv,hown,hne⟩:=q;exact⟨hB,v,(hb.block b hlt).trans hv,hown.kept (row:=none) ⟨hb.os,hb.tape,hb.output,hb.size,λk hk _=>hb.block k hk⟩ (Classical.em _),hne⟩
 rcases h with h |h
 ·exact .inl (aux _ h)
 ·exact .inr (aux _ h)
theorem Kp.below {B b:Nat}{w w':World}(hB:B<=w.heap.size)(hb:Below w.heap.size w w'):Kp B b w w':=⟨hb.mono hB,λk _ hk _ _=>(hb.block k (Array.getElem?_eq_some_iff.1 hk).1).trans hk⟩
def S2 (g2 g3:Nat)(PB NB:List Value)(w:World):Prop:=Bx w g2 73 PB/\Bx w g3 37 NB
theorem S2.kp {B b g2 g3:Nat}{PB NB:List Value}{w w':World}(h:S2 g2 g3 PB NB w)(q:Kp B b w w')(h2:g2≠b)(h3:g3≠b):S2 g2 g3 PB NB w':=⟨Bx.kp h.1 q h2 (by decide),Bx.kp h.2 q h3 (by decide)⟩
end
section
open Tr (Bx ag bt bu Ints)
end
section
open Tr (Bx ag bt bu Ints)
end
section
open Tr (Bx ag bt bu Ints)
end
section
open Tr (Bx ag bt bu Ints)
end
section
open Tr (Bx ag bt bu Ints)
end
section
open Tr (Bx ag bt bu Ints)
end
section
open Tr (Bx ag bt bu Ints)
end
section
open Tr (Bx ag bt bu Ints)
theorem qf (b o n c i:Nat)(hi:i<n)(w:World):(Instr.indexAt 23 (.slice (some ⟨b,o,none⟩) n c) (.int .i64 (i:Int))).run Tryz.prog w=.ok (.pointer (some ⟨b,o+i*5,none⟩)) w:=by
 have h:(i:Int)<(n:Int):=by omega
 simp[go_sem,Tryz.underlying23,h,Addr.add]
def SQ (g2 g3:Nat)(PB NB:List Value)(bk ok:Nat)(k:Int)(bA ot:Nat)(Lm:ByteArray)(w:World):Prop:=Bx w g2 73 PB/\Bx w g3 37 NB/\w.cell? ⟨bk,ok,none⟩=some (.int .i64 k)/\w.cell? ⟨bA,ot,none⟩=some (.string Lm)
theorem SQ.kp {B b g2 g3 bk ok bA ot:Nat}{PB NB:List Value}{k:Int}{Lm:ByteArray}{w w':World}(h:SQ g2 g3 PB NB bk ok k bA ot Lm w)(q:Kp B b w w')(h2:g2≠b)(h3:g3≠b)(hk:bk<B)(hA:bA<B):SQ g2 g3 PB NB bk ok k bA ot Lm w':=
 ⟨Bx.kp h.1 q h2 (by decide),Bx.kp h.2.1 q h3 (by decide),(Below.cell q.1 (p:=⟨bk,ok,none⟩) hk).trans h.2.2.1,(Below.cell q.1 (p:=⟨bA,ot,none⟩) hA).trans h.2.2.2⟩
end
section
open Tr (Bx ag bt bu Ints)
end
section
open Tr (Bx ag bt bu Ints)
theorem wE (b off n c:Nat)(h1:1<=n)(w:World):(Instr.sliceAt 35 (.slice (some ⟨b,off,none⟩) n c) (some (.int .i64 1)) none none).run Tryz.prog w=.ok (.slice (some ⟨b,if c=1 then off else off+1,none⟩) (n-1) (c-1)) w:=by
 have h:(1:Int)<=(n:Int):=by omega
 simp[go_sem,Tryz.underlying35,h];split<;>rfl
section
variable {a:Act} {o:Oper} {S:World->Prop}
theorem CX {x:Operand}{u r:Value}(ho:o.op=.slice 35 x (some (.const (.int .i64 1))) none none)(hx:a.eval x=u)(hr:∀w,(Instr.sliceAt 35 u (some (.int .i64 1)) none none).run Tryz.prog w=.ok r w):∀w,S w->(execOp a.eval o).run Tryz.prog w=.ok (.value r) w:=λw _=>by
 have hc:a.eval (.const (.int .i64 1))=.int .i64 1:=rfl;unfold execOp;simp only[ho,hx,hc,Option.map_some,Option.map_none,Sem.run_bind,hr w,Sem.run_pure,Result.andThen_ok]
end
end
section
open Tr (Bx ag bt bu Ints)
def n_ (w0:World)(A:Option Addr)(l:List Tr.Nd):Prop:=∀(p:Nat) (bA off:Nat) (K:Option Addr) (m c:Nat),p<l.length->A=some ⟨bA,off,none⟩->w0.cell? ⟨bA,off+p*5+4,none⟩=some (.slice K m c)->(ae l p).kd=13->2<=m->c≠1
end
section
open Tr (bu)
def MI (l:List Tr.Nd)(n f p:Nat):Prop:=
 (((ae l p).kd=7\/(ae l p).kd=11\/(ae l p).kd=12\/(ae l p).kd=15\/(ae l p).kd=17)/\∃k:Nat,(ae l p).ks[0]?=some (k:Int)/\k<f/\k<n/\Tr.aL (ae l k).kd=true) \/
 ((ae l p).kd=8/\∃k j:Nat,(ae l p).ks=[(k:Int),(j:Int)]/\(k<f/\k<n/\Tr.aL (ae l k).kd=true)/\j<f/\j<n/\Tr.aL (ae l j).kd=true) \/
 ((ae l p).kd=9/\∃k:Nat,(ae l p).ks[0]?=some (k:Int)/\k<n) \/
 ((ae l p).kd=10/\∃k j:Nat,(ae l p).ks=[(k:Int),(j:Int)]/\k<n/\j<f/\j<n/\Tr.aL (ae l j).kd=true) \/
 ((ae l p).kd=13/\∃(k:Nat) (ks:List Int),(ae l p).ks=(k:Int) :: ks/\ks.length+1<=100000/\k<n/\∀x ∈ ks,∃x2:Nat,x=(x2:Int)/\x2<f/\x2<n/\Tr.aL (ae l x2).kd=true) \/
 ((ae l p).kd=14/\(ae l p).ks.length<=100000/\∀k ∈ (ae l p).ks,∃k2:Nat,k=(k2:Int)/\k2<f/\k2<n/\Tr.aL (ae l k2).kd=true) \/
 (ae l p).kd=16
end
section
open Tr (Bx ag bt bu Ints)
def S3 (g:Nat)(P1 P2:List Value)(w:World):Prop:=Bx w g 73 P1/\Bx w (g+1) 73 P2
theorem S3.kp {B b g:Nat}{P1 P2:List Value}{w w':World}(h:S3 g P1 P2 w)(q:Kp B b w w')(h2:g≠b)(h3:g+1≠b):S3 g P1 P2 w':=⟨Bx.kp h.1 q h2 (by decide),Bx.kp h.2 q h3 (by decide)⟩
end
section
open Go
open Tr (nth dA aL bE ay nI kw bi gN vX lh aX dG dO sI)
theorem IU {l:List Tr.Nd}(h:kw l=true){p:Nat}(hp:p<l.length):nI l (ae l p)=true:=by
 rw[aH hp];exact List.all_eq_true.1 h _ (List.getElem_mem hp)
def eH (l:List Tr.Nd)(p:Int):List Int:=(ae l p).ks.map λk=>(ae l k).kd
structure MJ (l:List Tr.Nd) (p:Nat):Prop where
 lo:1<=(ae l p).kd
 hi:(ae l p).kd<=27
 tx:dG (ae l p).kd (MF l p)=true
 num:aX (ae l p).kd (ae l p).n=true
 kid:ay (ae l p).kd (eH l p)=true
theorem dJ {l:List Tr.Nd}(h:kw l=true){p:Nat}(hp:p<l.length):MJ l p:=by
 have h1:=IU h hp;unfold nI at h1;simp only[Bool.and_eq_true,decide_eq_true_eq]at h1;obtain⟨a,b,c,d,e⟩:=h1;exact⟨a,b,c,d,e⟩
theorem dP {l:List Tr.Nd}(hA:Ahead l){p:Nat}(hp:p<l.length):∀k ∈ (ae l p).ks,∃k2:Nat,k=(k2:Int)/\k2<p:=λk hk=>by
 rw[aH hp]at hk;obtain⟨h1,h2⟩:=hA p hp k hk;exact⟨k.toNat,by omega,by omega⟩
theorem kJ {α:Type}{ks:List α}(h:ks.length=1):∃a,ks=[a]:=by
 rcases ks with _ |⟨a,_ |⟨b,r⟩⟩
 ·cases h
 ·exact⟨a,rfl⟩
 ·simp at h
theorem il {α:Type}{ks:List α}(h:ks.length=2):∃a b,ks=[a,b]:=by
 rcases ks with _ |⟨a,_ |⟨b,_ |⟨c,r⟩⟩⟩
 ·cases h
 ·simp at h
 ·exact⟨a,b,rfl⟩
 ·simp at h
theorem ma {α:Type}{ks:List α}(h:ks.length=3):∃a b c,ks=[a,b,c]:=by
 rcases ks with _ |⟨a,_ |⟨b,_ |⟨c,_ |⟨d,r⟩⟩⟩⟩
 ·cases h
 ·simp at h
 ·simp at h
 ·exact⟨a,b,c,rfl⟩
 ·simp at h
theorem og (l:List Tr.Nd)(p:Int):(eH l p).length=(ae l p).ks.length:=List.length_map ..
theorem oh {l:List Tr.Nd}(hA:Ahead l){p:Nat}(hp:p<l.length)(h:(eH l p).length=1):∃k:Nat,(ae l p).ks=[(k:Int)]/\k<p/\eH l p=[(ae l k).kd]:=by
 rw[og]at h;obtain⟨a,e⟩:=kJ h;obtain⟨k,rfl,hk⟩:=dP hA hp a (by rw[e];simp);exact⟨k,e,hk,by unfold eH;rw[e];rfl⟩
theorem iD {l:List Tr.Nd}(hA:Ahead l){p:Nat}(hp:p<l.length)(h:(eH l p).length=2):∃k j:Nat,(ae l p).ks=[(k:Int),(j:Int)]/\k<p/\j<p/\eH l p=[(ae l k).kd,(ae l j).kd]:=by
 rw[og]at h;obtain⟨a,b,e⟩:=il h;obtain⟨k,rfl,hk⟩:=dP hA hp a (by rw[e];simp);obtain⟨j,rfl,hj⟩:=dP hA hp b (by rw[e];simp);exact⟨k,j,e,hk,hj,by unfold eH;rw[e];rfl⟩
theorem qZ {l:List Tr.Nd}(hA:Ahead l){p:Nat}(hp:p<l.length)(h:(eH l p).length=3):∃k j i:Nat,(ae l p).ks=[(k:Int),(j:Int),(i:Int)]/\k<p/\j<p/\i<p/\eH l p=[(ae l k).kd,(ae l j).kd,(ae l i).kd]:=by
 rw[og]at h;obtain⟨a,b,c,e⟩:=ma h;obtain⟨k,rfl,hk⟩:=dP hA hp a (by rw[e];simp);obtain⟨j,rfl,hj⟩:=dP hA hp b (by rw[e];simp);obtain⟨i,rfl,hi⟩:=dP hA hp c (by rw[e];simp);exact⟨k,j,i,e,hk,hj,hi,by unfold eH;rw[e];rfl⟩
theorem iq {l:List Tr.Nd}{p k:Int}(hk:k ∈ (ae l p).ks):(ae l k).kd ∈ eH l p:=List.mem_map.2 ⟨k,hk,rfl⟩
theorem iV (a:Int):∀(l:List Int),∀x ∈ l.take (gN a l),x=a
 | [],x,h=>by cases h
 |y :: l,x,h=>by
  unfold gN at h;split at h
  case isTrue e=>
   rw[List.take_succ_cons]at h;rcases List.mem_cons.1 h with rfl |h
   ·exact e
   ·exact iV a l x h
  case isFalse=>rw[List.take_zero]at h;cases h
theorem wF (l:List Int)(a b:Int):∀x ∈ l.take (lh l a b),x=a\/x=b:=λx h=>by
 unfold lh at h;rw[List.take_add]at h;rcases List.mem_append.1 h with h |h
 ·exact Or.inl (iV a l x h)
 ·exact Or.inr (iV b _ x h)
theorem ol {l:List Int}{a b:Int}(h:bi l a b 0=true):∀x ∈ l,x=a\/x=b:=λx hx=>by
 unfold bi at h;rw[if_pos rfl,decide_eq_true_eq]at h;have:=wF l a b x;rw[h,List.take_length]at this;exact this hx
theorem q9 {l:List Int}{a b c:Int}(hc:c≠0)(h:bi l a b c=true):∃l',l=l'++[c]/\∀x ∈ l',x=a\/x=b:=by
 unfold bi at h;rw[if_neg hc]at h;simp only[Bool.and_eq_true,decide_eq_true_eq]at h;obtain⟨h1,h2⟩:=h;refine⟨l.take (lh l a b),?_,wF l a b⟩;have hi:lh l a b<l.length:=by omega
 have e:l.take (lh l a b+1)=l.take (lh l a b)++[l[lh l a b]]:=List.take_succ_eq_append_getElem hi;rw[List.getD_eq_getElem?_getD,List.getElem?_eq_getElem hi]at h2;rw[h1,List.take_length]at e;rw[show l[lh l a b]=c from h2]at e;exact e
theorem iw {l:List Int}(h:bE l=true):∀x ∈ l,aL x=true:=List.all_eq_true.1 h
structure Ky (l:List Tr.Nd):Prop where
 ex:Mv l
 few:∀p:Nat,p<l.length->(ae l p).ks.length<=4000
 ln:∀p:Nat,p<l.length->dA (ae l p).kd=true->MI l l.length l.length p
 kif:∀p:Nat,p<l.length->(ae l p).kd=11->∃a b c:Nat,(ae l p).ks=[(a:Int),(b:Int),(c:Int)]/\b<p/\c<p/\(ae l b).kd=6/\(ae l c).kd=6
 wh:∀p:Nat,p<l.length->(ae l p).kd=12->∃a b:Nat,(ae l p).ks=[(a:Int),(b:Int)]/\b<p/\(ae l b).kd=6
 tr:∀p:Nat,p<l.length->(ae l p).kd=16->∃a b:Nat,(ae l p).ks=[(a:Int),(b:Int)]/\a<p/\b<p/\(ae l a).kd=6/\(ae l b).kd=6
 bl:∀p:Nat,p<l.length->(ae l p).kd=6->∀k ∈ (ae l p).ks,∃k2:Nat,k=(k2:Int)/\k2<p/\dA (ae l k2).kd=true
 pr:∀p:Nat,p<l.length->(ae l p).kd=3->∃(ks:List Int) (b:Nat),(ae l p).ks=ks++[(b:Int)]/\b<p/\(ae l b).kd=6/\∀k ∈ ks,∃k2:Nat,k=(k2:Int)/\k2<p/\((ae l k2).kd=4\/(ae l k2).kd=5)
 pg:∀p:Nat,p<l.length->(ae l p).kd=1->∀k ∈ (ae l p).ks,∃k2:Nat,k=(k2:Int)/\k2<p/\((ae l k2).kd=2\/(ae l k2).kd=3)
theorem AJ {k:Int}(h:dA k=true):k=7\/k=8\/k=9\/k=10\/k=11\/k=12\/k=13\/k=14\/k=15\/k=16\/k=17:=by
 unfold dA at h;simp only[Bool.and_eq_true,decide_eq_true_eq]at h;omega
theorem IV {l:List Tr.Nd}(hA:Ahead l)(h:kw l=true)(hm:∀x ∈ l,x.n<=9223372036854775807):Mv l where
 one p hp hk:=by
  have h1:=(dJ h hp).kid;have h2:(eH l p).length=1/\bE (eH l p)=true:=by
   rcases hk with hk |hk<;>· rw[hk]at h1;simpa [ay]using h1
  obtain⟨k,e,hlt,e2⟩:=oh hA hp h2.1;exact⟨k,e,hlt,iw h2.2 _ (by rw[e2];simp)⟩
 two p hp hk:=by
  have h1:=(dJ h hp).kid;rw[hk]at h1;have h2:(eH l p).length=2/\bE (eH l p)=true:=by simpa [ay]using h1
  obtain⟨k,j,e,hlt,hlt2,e2⟩:=iD hA hp h2.1;exact⟨k,j,e,hlt,hlt2,iw h2.2 _ (by rw[e2];simp),iw h2.2 _ (by rw[e2];simp)⟩
 num p hp hk:=by
  have h1:=(dJ h hp).num;rw[hk]at h1;refine⟨by simpa [aX]using h1,?_⟩;rw[aH hp];exact hm _ (List.getElem_mem hp)
theorem Kz {l:List Tr.Nd}(hA:Ahead l)(h:kw l=true)(hm:∀x ∈ l,x.n<=9223372036854775807)(hf:∀x ∈ l,x.ks.length<=4000):Ky l where
 ex:=IV hA h hm
 few p hp:=by rw[aH hp];exact hf _ (List.getElem_mem hp)
 ln p hp hk:=by
  have h1:=(dJ h hp).kid;have hfew:(ae l p).ks.length<=4000:=by rw[aH hp];exact hf _ (List.getElem_mem hp)
  rcases AJ hk with e |e |e |e |e |e |e |e |e |e |e<;>rw[e]at h1<;>simp[ay]at h1
  ·obtain⟨k,e1,hlt,e2⟩:=oh hA hp h1.1;exact Or.inl ⟨Or.inl e,k,by rw[e1];rfl,by omega,by omega,iw h1.2 _ (by rw[e2];simp)⟩
  ·obtain⟨k,j,e1,hlt,hlt2,e2⟩:=iD hA hp h1.1;exact Or.inr (Or.inl ⟨e,k,j,e1,⟨by omega,by omega,iw h1.2 _ (by rw[e2];simp)⟩,by omega,by omega,iw h1.2 _ (by rw[e2];simp)⟩)
  ·obtain⟨k,e1,hlt,e2⟩:=oh hA hp h1.1;exact Or.inr (Or.inr (Or.inl ⟨e,k,by rw[e1];rfl,by omega⟩))
  ·obtain⟨k,j,e1,hlt,hlt2,e2⟩:=iD hA hp h1.1.1;rw[e2]at h1;exact Or.inr (Or.inr (Or.inr (Or.inl ⟨e,k,j,e1,by omega,by omega,by omega,h1.2⟩)))
  ·obtain⟨k,j,i,e1,hlt,hlt2,hlt3,e2⟩:=qZ hA hp h1.1.1.1;rw[e2]at h1;exact Or.inl ⟨Or.inr (Or.inl e),k,by rw[e1];rfl,by omega,by omega,h1.1.1.2⟩
  ·obtain⟨k,j,e1,hlt,hlt2,e2⟩:=iD hA hp h1.1.1;rw[e2]at h1;exact Or.inl ⟨Or.inr (Or.inr (Or.inl e)),k,by rw[e1];rfl,by omega,by omega,h1.1.2⟩
  ·have e3:=og l p;rcases hks:(ae l p).ks with _ |⟨a,ks⟩
   ·rw[hks]at e3;have h2:=h1.1.1;rw[e3]at h2;simp at h2
   ·obtain⟨k,rfl,hlt⟩:=dP hA hp a (by rw[hks];simp);refine Or.inr (Or.inr (Or.inr (Or.inr (Or.inl ⟨e,k,ks,hks,?_,by omega,λx hx =>?_⟩))))
    ·rw[hks]at hfew;simp only[List.length_cons]at hfew;omega
    ·obtain⟨x2,rfl,hx2⟩:=dP hA hp x (by rw[hks];exact List.mem_cons_of_mem _ hx);refine⟨x2,rfl,by omega,by omega,iw h1.2 _ ?_⟩;unfold eH;rw[hks,List.map_cons];exact List.mem_map.2 ⟨_,hx,rfl⟩
  ·refine Or.inr (Or.inr (Or.inr (Or.inr (Or.inr (Or.inl ⟨e,by omega,λx hx =>?_⟩)))));obtain⟨x2,rfl,hx2⟩:=dP hA hp x hx;exact⟨x2,rfl,by omega,by omega,iw h1.2 _ (iq hx)⟩
  ·obtain⟨k,e1,hlt,e2⟩:=oh hA hp h1.1;exact Or.inl ⟨Or.inr (Or.inr (Or.inr (Or.inl e))),k,by rw[e1];rfl,by omega,by omega,iw h1.2 _ (by rw[e2];simp)⟩
  ·exact Or.inr (Or.inr (Or.inr (Or.inr (Or.inr (Or.inr e)))))
  ·obtain⟨k,e1,hlt,e2⟩:=oh hA hp h1.1;exact Or.inl ⟨Or.inr (Or.inr (Or.inr (Or.inr e))),k,by rw[e1];rfl,by omega,by omega,iw h1.2 _ (by rw[e2];simp)⟩
 kif p hp e:=by
  have h1:=(dJ h hp).kid;rw[e]at h1;simp[ay]at h1;obtain⟨k,j,i,e1,hlt,hlt2,hlt3,e2⟩:=qZ hA hp h1.1.1.1;rw[e2]at h1;exact⟨k,j,i,e1,hlt2,hlt3,h1.1.2,h1.2⟩
 wh p hp e:=by
  have h1:=(dJ h hp).kid;rw[e]at h1;simp[ay]at h1;obtain⟨k,j,e1,hlt,hlt2,e2⟩:=iD hA hp h1.1.1;rw[e2]at h1;exact⟨k,j,e1,hlt2,h1.2⟩
 tr p hp e:=by
  have h1:=(dJ h hp).kid;rw[e]at h1;simp[ay]at h1;obtain⟨k,j,e1,hlt,hlt2,e2⟩:=iD hA hp h1.1.1;rw[e2]at h1;exact⟨k,j,e1,hlt,hlt2,h1.1.2,h1.2⟩
 bl p hp e:=λk hk=>by
  have h1:=(dJ h hp).kid;rw[e]at h1;simp only[ay]at h1;obtain⟨k2,rfl,hlt⟩:=dP hA hp k hk;exact⟨k2,rfl,hlt,List.all_eq_true.1 (show(eH l p).all dA=true by simpa using h1) _ (iq hk)⟩
 pr p hp e:=by
  have h1:=(dJ h hp).kid;rw[e]at h1;have h2:bi (eH l p) 4 5 6=true:=by simpa [ay]using h1
  obtain⟨l',e1,e2⟩:=q9 (by decide) h2;have e3:(ae l p).ks≠[]:=λh0=>by unfold eH at e1;rw[h0]at e1;simp at e1
  obtain⟨ks,b,hks⟩:∃ks b,(ae l p).ks=ks++[b]:=⟨_,_,(List.dropLast_concat_getLast e3).symm⟩;have e4:eH l p=(ks.map λk=>(ae l k).kd)++[(ae l b).kd]:=by unfold eH;rw[hks,List.map_append];rfl
  rw[e4]at e1;obtain⟨e5,e6⟩:=List.append_inj' e1 rfl;obtain⟨b2,rfl,hb⟩:=dP hA hp b (by rw[hks];simp);refine⟨ks,b2,hks,hb,by simpa using e6,λk hk =>?_⟩;obtain⟨k2,rfl,hlt⟩:=dP hA hp k (by rw[hks];exact List.mem_append_left _ hk);exact⟨k2,rfl,hlt,e2 _ (by rw[<- e5];exact List.mem_map.2 ⟨_,hk,rfl⟩)⟩
 pg p hp e:=λk hk=>by
  have h1:=(dJ h hp).kid;rw[e]at h1;have h2:bi (eH l p) 2 3 0=true:=by simpa [ay]using h1
  obtain⟨k2,rfl,hlt⟩:=dP hA hp k hk;exact⟨k2,rfl,hlt,ol h2 _ (iq hk)⟩
end
section
open Go
open Tr (nth dA aL bE ay nI kw bi aX dG dO sI)
structure NG (l:List Tr.Nd) (S:Int->Nat):Prop where
 eq:∀p:Nat,p<l.length->S p=1+((ae l p).ks.map S).sum
 top:∀p:Nat,p<l.length->S p<=4000
theorem nu {l:List Tr.Nd}{p a:Int}{ks:List Int}(h:(ae l p).ks=a :: ks):dH l p 0=a:=by unfold dH;rw[h];rfl
open Tr (iY ig aA) in
theorem gz {l:List Tr.Nd}{p:Nat}(hp:p<l.length):aA l p=(ae l p).ks:=by
 unfold aA;rw[aH hp];simp[List.getD,hp]
open Tr (iY ig aA) in
theorem CY {l:List Tr.Nd}{b:Nat->Nat}(hS:iY l b l.length)(hb:∀q,q<l.length->b q<=q):Ahead l:=λi hi k hk=>by
 have h1:=hS i hi;rw[gz hi,aH hi]at h1;obtain⟨m,e,h2,_⟩:=Tr.iK _ i (b i) (λq hq=>hb q (by omega)) h1 k (List.mem_reverse.2 hk);omega
end
section
open Go
open Tr (nth dA aL bE ay nI kw)
structure NH (la l':List Tr.Nd) (off:Nat):Prop where
 kd:∀i:Nat,i<la.length->(ae l' ((i+off:Nat):Int)).kd=(ae la i).kd
 n:∀i:Nat,i<la.length->(ae l' ((i+off:Nat):Int)).n=(ae la i).n
 tx:∀i:Nat,i<la.length->(ae l' ((i+off:Nat):Int)).tx=(ae la i).tx
 ks:∀i:Nat,i<la.length->(ae l' ((i+off:Nat):Int)).ks=(ae la i).ks.map λk=>k+(off:Int)
end
section
open Tr (Bx ag bt bu Ints)
def SI (g:Nat)(PB NB:List Value)(bk ok:Nat)(ks:List Int)(w:World):Prop:=Bx w g 73 PB/\Bx w (g+1) 37 NB/\∀j (hj:j<ks.length),w.cell? ⟨bk,ok+j,none⟩=some (.int .i64 ks[j])
theorem SI.kp {B b g bk ok:Nat}{PB NB:List Value}{ks:List Int}{w w':World}(h:SI g PB NB bk ok ks w)(q:Kp B b w w')(h2:g≠b)(h3:g+1≠b)(hk:bk<B):SI g PB NB bk ok ks w':=
 ⟨Bx.kp h.1 q h2 (by decide),Bx.kp h.2.1 q h3 (by decide),λj hj=>(Below.cell q.1 (p:=⟨bk,ok+j,none⟩) hk).trans (h.2.2 j hj)⟩
def SJ (g:Nat)(PB NB:List Value)(bk ok:Nat)(ks:List Int)(bA oc:Nat)(v:Value)(w:World):Prop:=SI g PB NB bk ok ks w/\w.cell? ⟨bA,oc,none⟩=some v
theorem SJ.kp {B b g bk ok bA oc:Nat}{PB NB:List Value}{ks:List Int}{v:Value}{w w':World}(h:SJ g PB NB bk ok ks bA oc v w)(q:Kp B b w w')(h2:g≠b)(h3:g+1≠b)(hk:bk<B)(hA:bA<B):SJ g PB NB bk ok ks bA oc v w':=
 ⟨h.1.kp q h2 h3 hk,(Below.cell q.1 (p:=⟨bA,oc,none⟩) hA).trans h.2⟩
end
end Go.Proofs.YteecfjhjllajlaaGreatDoor
