/- PROVED: Pr Xe. No more condition. -/
import Derived.Test.YteecfjhjllajlaaGreatDoorM06
import Derived.Test.YteecfjhjllajlaaGreatDoorM03
set_option maxHeartbeats 2500000
set_option maxRecDepth 100000
namespace Go.Proofs.YteecfjhjllajlaaGreatDoor
open Go.Lib (hid)
open Go Go.RowKit
section
open Tr (Bx aa bt au aP ax aA)
theorem lJ {ts:List Tok}{o:Prop}{s s':St}{m n:Nat}{r:Rs}{v:List Int}(h:bF ts o s m n r)(hr:r=.ok v s'):s.nx+m<=s'.nx/\s'.nx<ts.length/\s'.op=n:=by rw[hr]at h;exact h
def Sj (ts:List Tok)(rec:nM->St->Rs):Prop:=∀(X:Nat->Prop) (w:World) (base g:Nat) (A:Option Addr) (c:Nat) (V:Value) (s:St),Pz X w base g A c ts V s ->
 (rec .una s ≠ .out->Calls Tryz.prog 253 #[.pointer (some ⟨g,0,none⟩)] w (aM X base g A c ts V w (rec .una s))) /\
 (∀r:Nat,1<=r->r<=6->rec (.bin r) s ≠ .out->Calls Tryz.prog 215 #[.pointer (some ⟨g,0,none⟩),.int .i64 (r:Int)] w (aM X base g A c ts V w (rec (.bin r) s))) /\
 (rec .stmt s ≠ .out->Calls Tryz.prog 241 #[.pointer (some ⟨g,0,none⟩)] w (aM X base g A c ts V w (rec .stmt s))) /\
 (∀pl:Int,1<=s.op->rec (.stmts pl []) s ≠ .out->Calls Tryz.prog 173 #[.pointer (some ⟨g,0,none⟩),.int .i64 pl] w (aM X base g A c ts V w (rec (.stmts pl []) s)))
structure Rz (ts:List Tok) (rec:nM->St->Rs):Prop where
 nk:F3 rec
 ok:FJ ts True 0 rec
 z:Sj ts rec
theorem rA {ts:List Tok}{rec:nM->St->Rs}(hZ:Rz ts rec){s s':St}{v:List Int}(h:s.nx<ts.length)(e:a_ rec s=.ok v s'):s.nx+1<=s'.nx/\s'.nx<ts.length/\s'.op=s.op:=lJ ((hZ.ok s h).2.1 1 (by omega) (by omega) (.inl trivial)) e
theorem nY {ts:List Tok}(ht:p9 ts){s s':St}{v:List Int}{x:List UInt8}(hx:x≠[])(h:s.nx<ts.length)(e:gL ts x s=.ok v s'):s.nx+1<=s'.nx/\s'.nx<ts.length/\s'.op=s.op+1:=lJ (nV (o:=True) h ht x hx) e
theorem jo {X:Nat->Prop}{w:World}{base g c:Nat}{A:Option Addr}{ts:List Tok}{V:Value}{s:St}{rec:nM->St->Rs}(hZ:Rz ts rec)(h:Pz X w base g A c ts V s)(hne:a_ rec s ≠ .out):Calls Tryz.prog 138 #[.pointer (some ⟨g,0,none⟩)] w (aM X base g A c ts V w (a_ rec s)):=by
 have HC:=hid ((hZ.z X w base g A c V s h).2.1 1 (by omega) (by omega) hne);change Hid (Calls _ _ _ _ (aM _ _ _ _ _ _ _ _ (a_ rec s)))at HC;generalize a_ rec s=R at *
 clear h hZ hne;go_enter Tryz.func138,Tryz.ntmps138
 go_wp2_with (go_at_call 215;refine(HC.out).mono ?_;rintro e w3 (⟨p,er,hr,rfl,hF⟩ |⟨x,s3,V3,hr,rfl,hz3,hF3⟩)<;>replace hr:=hid hr)
 ·exact⟨rfl,.inl ⟨p,er,hr.out,rfl,hF⟩⟩
 ·go_ret
  exact .inr ⟨x,s3,V3,hr.out,rfl,hz3,hF3⟩
theorem CG {X:Nat->Prop}{w:World}{base g c:Nat}{A:Option Addr}{ts:List Tok}{V:Value}{s:St}{rec:nM->St->Rs}(hZ:Rz ts rec)(h:Pz X w base g A c ts V s)(hne:kN ts rec s ≠ .out):Calls Tryz.prog 298 #[.pointer (some ⟨g,0,none⟩)] w (aM X base g A c ts V w (kN ts rec s)):=by
 obtain⟨R,HR⟩:∃R,R=kN ts rec s:=⟨_,rfl⟩;rw[<- HR]at hne |-;unfold kN at HR;have HB:=hid (lu h [91] (by decide));have HK:=hid (And.intro HR (And.intro hne (And.intro h.ok (And.intro h.px.nx hZ))));clear HR hne h hZ;go_enter Tryz.func298,Tryz.ntmps298
 go_wp2_with (first|(go_at_call 172;refine(HB.out).mono ?_;rintro e w1 (⟨p,er,hr,rfl,hF⟩ |⟨s1,hr1,rfl,hz1,hF1⟩)<;>first|replace hr1:=hid hr1 |replace hr:=hid hr) |(go_at_call 138;refine(jo HK.out.2.2.2.2 hz1 (Rs.step_in (Rs.step HK.out.1 hr1.out) HK.out.2.1)).mono ?_;rintro e w2 (⟨p,er,hr,rfl,hF⟩ |⟨x,s2,V2,hr2,rfl,hz2,hF2⟩)<;>first|replace hr2:=hid hr2 |replace hr:=hid hr) |(go_at_call 239;refine(kR hz2 [93] (by decide) (by have a:=nY HK.out.2.2.1 (by decide) HK.out.2.2.2.1 hr1.out;have b:=rA HK.out.2.2.2.2 a.2.1 hr2.out;omega)).mono ?_;rintro e w3 (⟨p,er,hr,rfl,hF⟩ |⟨s3,hr3,rfl,hz3,hF3⟩)<;>first|replace hr3:=hid hr3 |replace hr:=hid hr))
 ·exact⟨rfl,.inl ⟨p,er,Rs.step_no HK.out.1 hr.out,rfl,hF⟩⟩
 ·exact⟨rfl,.inl (ai hF1 (Rs.step_no (Rs.step HK.out.1 hr1.out) hr.out) hF)⟩
 ·exact⟨rfl,.inl (ai (hF1.trans hF2) (Rs.step_no (Rs.step (Rs.step HK.out.1 hr1.out) hr2.out) hr.out) hF)⟩
 ·go_ret
  exact .inr ⟨x,s3,V2,(Rs.step (Rs.step (Rs.step HK.out.1 hr1.out) hr2.out) hr3.out :),rfl,hz3,(hF1.trans hF2).trans hF3⟩
theorem fE (w:World)(a b:Obj):Below w.heap.size w ((w.alloc a).alloc b):=bt (aa w a) (aa _ b)
theorem Pz.box {X:Nat->Prop}{w w':World}{base g c:Nat}{A:Option Addr}{ts:List Tok}{V V':Value}{s:St}{t:TypeId}{l:List Value}(h:Pz X w base g A c ts V s)(f:Fo (w.alloc (.cells l.toArray t)) w' g V V'):Bx w' w.heap.size t l/\V'.ownBlock≠some w.heap.size:=f.bx (Bx.new w t l) h.new.1 h.new.2
theorem Pz.shut {X:Nat->Prop}{w:World}{base g c:Nat}{A:Option Addr}{ts:List Tok}{V:Value}{s:St}(h:Pz X w base g A c ts V s)(ho:1<=s.op):Pz X (w.setCell ⟨g,3,none⟩ (.int .i64 ((s.op:Int)-1))) base g A c ts V {s with op:=s.op-1}/\Fo w (w.setCell ⟨g,3,none⟩ (.int .i64 ((s.op:Int)-1))) g V V:=by
 have hF:Fr (λb=>b=g) w (w.setCell ⟨g,3,none⟩ (.int .i64 ((s.op:Int)-1))):=Fr.set (E:=λb=>b=g) (Fr.refl _ _) rfl _;have hE:=h.px.box.set_ 3 (.int .i64 ((s.op:Int)-1));simp only[List.set_cons_zero,List.set_cons_succ]at hE;have h40:=h.h40;have hop:=h.px.op;refine⟨h.move hF (h.px.to hF ?_ h.px.nx (by show s.op-1<=100000;omega) h.px.mo) rfl (Nat.le_refl _) (by show s.op-1<=40/\s.mo<=40;omega),Fo.box hF⟩;have e:((s.op:Int)-1)=((s.op-1:Nat):Int):=by omega
 rw[e]at hE |-;exact hE
theorem CJ {X:Nat->Prop}{w:World}{base g c:Nat}{A:Option Addr}{ts:List Tok}{V:Value}{s:St}(h:Pz X w base g A c ts V s)(hs:(ah ts s).s≠[]):Calls Tryz.prog 293 #[.pointer (some ⟨g,0,none⟩)] w (aM X base g A c ts V w (bv 21 (if (ah ts s).s=fw then 1 else 0) (ah ts s).p [] [] (ae s))):=by
 have hk:Nk s 0 (bv 21 (if (ah ts s).s=fw then 1 else 0) (ah ts s).p [] [] (ae s)):=(dE (bY _ _ _ _ _ _)).weak (by omega);obtain⟨R,HR⟩:∃R,R=bv 21 (if (ah ts s).s=fw then 1 else 0) (ah ts s).p [] [] (ae s):=⟨_,rfl⟩;rw[<- HR]at hk |-;have HT:=hid (gB h (.inr hs));have hn:=h.hn;have HA:=hid (λ(w':World) (n:Int) (q:Pz X w' base g A c ts V (ae s)) (e:(if (ah ts s).s=fw then (1:Int) else 0)=n)=>mr q 21 n ((ah ts s).p:Int) [] none none 0 0 0 0 [] (nX _ _) ⟨rfl,Nat.le_refl _⟩ (HR.trans (by rw[e];rfl)) hk hn);generalize ah ts s=t at *
 clear hk h hs HR hn;unfold aX at *
 by_cases q:t.s=fw
 ·have he:((bs t.s).toList==[116,114,117,101])=true:=by rw[aj,q];rfl
  have HQ:=hid (if_pos q:(if t.s=fw then (1:Int) else 0)=1);clear q;go_enter Tryz.func293,Tryz.ntmps293
  go_wp2_with (first|(go_at_call 164;refine HT.out.mono ?_;rintro e w1 ⟨rfl,hz1,hF1⟩) |(go_at_call 106;refine(HA.out _ 1 (hz1.below (fE _ _ _)) HQ.out).mono ?_;rintro e w3 (⟨p,er,hr,rfl,hF⟩ |⟨x,s3,V3,hr,rfl,hz,hF⟩)<;>replace hr:=hid hr))
  ·exact⟨rfl,.inl (ai (hF1.trans (Fo.below (fE _ _ _))) hr.out hF)⟩
  ·go_ret
   exact .inr ⟨x,s3,V3,hr.out,rfl,hz,(hF1.trans (Fo.below (fE _ _ _))).trans hF⟩
 ·have he:((bs t.s).toList==[116,114,117,101])=false:=by rw[aj];simpa [fw]using q
  have HQ:=hid (if_neg q:(if t.s=fw then (1:Int) else 0)=0);clear q;go_enter Tryz.func293,Tryz.ntmps293
  go_wp2_with (first|(go_at_call 164;refine HT.out.mono ?_;rintro e w1 ⟨rfl,hz1,hF1⟩) |(go_at_call 106;refine(HA.out _ 0 (hz1.below (fE _ _ _)) HQ.out).mono ?_;rintro e w3 (⟨p,er,hr,rfl,hF⟩ |⟨x,s3,V3,hr,rfl,hz,hF⟩)<;>replace hr:=hid hr))
  ·exact⟨rfl,.inl (ai (hF1.trans (Fo.below (fE _ _ _))) hr.out hF)⟩
  ·go_ret
   exact .inr ⟨x,s3,V3,hr.out,rfl,hz,(hF1.trans (Fo.below (fE _ _ _))).trans hF⟩
theorem zw {X:Nat->Prop}{w:World}{base g c:Nat}{A:Option Addr}{ts:List Tok}{V:Value}{s:St}{rec:nM->St->Rs}(hZ:Rz ts rec)(h:Pz X w base g A c ts V s)(hs:(ah ts s).s≠[])(hne:gN ts rec s ≠ .out):Calls Tryz.prog 292 #[.pointer (some ⟨g,0,none⟩)] w (aM X base g A c ts V w (gN ts rec s)):=by
 have hk:Nk s 0 (gN ts rec s):=Cz ts hZ.nk s;obtain⟨R,HR⟩:∃R,R=gN ts rec s:=⟨_,rfl⟩;rw[<- HR]at hk hne |-;unfold gN at HR;dsimp only at HR;have hf:=bi (ah ts s);have HC:=hid (bO h);have HB:=hid (λw' (q:Below w.heap.size w w')=>lu (h.below q) (ah ts s).s hs);have HO:=hid (λv' s' (q:gL ts (ah ts s).s s=.ok v' s')=>nY h.ok hs h.px.nx q);have HK:=hid (And.intro HR (And.intro hne (And.intro hk (And.intro h.hn hZ))));generalize hv:aX (ah ts s)=v at hf HC;generalize ah ts s=t at *
 clear hs HR hne hk h hZ;unfold aX at HB;clear hv;go_enter Tryz.func292,Tryz.ntmps292
 go_wp2_with (first|(go_at_call 167;refine HC.out.mono ?_;rintro e w1 ⟨rfl,hb1⟩) |(go_at_call 172;refine(HB.out _ hb1).mono ?_;rintro e w2 (⟨p,er,hr,rfl,hF⟩ |⟨s1,hr1,rfl,hz2,hF2⟩)<;>first|replace hr1:=hid hr1 |replace hr:=hid hr) |(go_at_call 253;refine((HK.out.2.2.2.2.z X _ base g A c V s1 (hz2.below (aa _ _))).1 (Rs.step_in (Rs.step HK.out.1 hr1.out) HK.out.2.1)).mono ?_))
 ·exact⟨rfl,.inl (ai (Fo.below hb1) (Rs.step_no HK.out.1 hr.out) hF)⟩
 rintro e w3 (⟨p,er,hr,rfl,hF⟩ |⟨x,s2,V2,hr2,rfl,hz3,hF3⟩)<;>first|replace hr2:=hid hr2 |replace hr:=hid hr
 ·exact⟨rfl,.inl (ai (((Fo.below hb1).trans hF2).trans (Fo.below (aa _ _))) (Rs.step_no (Rs.step HK.out.1 hr1.out) hr.out) hF)⟩
 ·have hop:1<=s2.op:=by
   have a:=HO.out _ _ hr1.out;have b:=lJ ((HK.out.2.2.2.2.ok s1 a.2.1).1 (.inl trivial)) hr2.out;omega
  have HR2:=Rs.step (Rs.step HK.out.1 hr1.out) hr2.out;obtain⟨hz4,hF4⟩:=hz3.shut hop;have hT:=(hz2.box hF3).1;have d3:=(hz3.px.box.cell 3).trans rfl;have fd3:=hz3.px.box.frozen 3;have hT4:=hT.far (p:=⟨g,3,none⟩) hz2.new.1 (.int .i64 ((s2.op:Int)-1));obtain⟨W4,hW4⟩:∃W4,w3.setCell ⟨g,3,none⟩ (.int .i64 ((s2.op:Int)-1))=W4:=⟨_,rfl⟩;rw[hW4]at hz4 hF4 hT4;have t2:=(hT4.cell 2).trans rfl;have t3:=(hT4.cell 3).trans rfl;have HA:=hid (sJ hz4 26 0 (t.p:Int) t.s none 0 0 x HR2 HK.out.2.2.1 HK.out.2.2.2.1);have HF:=hid ((((Fo.below hb1).trans hF2).trans (Fo.below (V:=V) (aa _ _))).trans (hF3.trans hF4));have hopz:=hz3.px.op;clear hT hT4 hz2 hz3 hF2 hF3 hz4 hF4 HR2 hr1 hr2;go_wp2_with (go_at_call 106;refine(HA.out).mono ?_;rintro e w4 (⟨p,er,hr,rfl,hF⟩ |⟨x4,s4,V4,hr,rfl,hz,hF⟩)<;>first|replace hr:=hid hr |replace hr:=hid hr)
  ·exact⟨rfl,.inl (ai HF.out hr.out hF)⟩
  ·go_ret
   exact .inr ⟨_,s4,V4,hr.out,rfl,hz,HF.out.trans hF⟩
end
section
open Tr (Bx aa bt au aP ax aA)
def Own (F:Nat):Prop:=∃fn,Tryz.prog.funcs[F]?=some fn/\(fn.name == "runtime.NumGoroutine")=false/\fn.body.isNone=false
theorem oV {F:Nat}(h:Own F)(args:Array Value)(w:World):(callFunc F args).run Tryz.prog w=.ok (.enter F args) w:=by
 obtain⟨fn,h1,h2,h3⟩:=h;simp only[callFunc,Sem.run_bind,run_program,Result.andThen_ok,h1,h2,h3,Bool.false_eq_true,if_false,Sem.run_pure]
theorem pO:Own 106:=⟨_,Tryz.func106,by kernel_rfl,by kernel_rfl⟩
theorem CK:Own 138:=⟨_,Tryz.func138,by kernel_rfl,by kernel_rfl⟩
theorem NW:Own 298:=⟨_,Tryz.func298,by kernel_rfl,by kernel_rfl⟩
theorem NY:Own 300:=⟨_,Tryz.func300,by kernel_rfl,by kernel_rfl⟩
theorem NZ:Own 273:=⟨_,Tryz.func273,by kernel_rfl,by kernel_rfl⟩
theorem M9:Own 173:=⟨_,Tryz.func173,by kernel_rfl,by kernel_rfl⟩
theorem zx (k n:Int)(s:ByteArray)(w:World):(Instr.build 37 #[(0,.int .i64 k),(3,.string s),(2,.int .i64 n)]).run Tryz.prog w=.ok (.agg #[.int .i64 k,.int .i64 0,.int .i64 n,.string s,.slice none 0 0]) w:=by kernel_rfl
section
variable {ops:Array Oper} {Q:Exit->Act->World->Prop} {S:World->Prop} {fuel:Nat} {listed:Array Bool} {a:Act} {w:World} {o:Oper}
theorem aQ (i:Nat)(o:Oper){F:Nat}{xs:Array Operand}{ts:Array TypeId}{args:Array Value}{C:Ending->World->Prop}(hF:Own F)(ho:o.op=.call {callee :=.value (.func F),args:=xs,argTypes:=ts})(hi:ops[i]?=some o)(hr:Region.ready .any ops listed=[i])
  (hw:Region.wanted o (yielded ops a.tmps)=true) (ha':(xs.toList.map a.eval).toArray=args) (hc:Calls Tryz.prog F args w C)
  (h:∀e w',C e w'->(∃ch,e=.panicked ch/\Q (.panic ch) a w')\/∃v,e=.returned v/\S w'/\wpAnyH Tryz.prog .any ops Q S fuel (listed.setIfInBounds i true) (a.put o.dst v) w'):wpAnyH Tryz.prog .any ops Q S (fuel+1) listed a w:=
 dQ i o hi hr hw (by
  have ha:xs.map a.eval=args:=by rw[<- ha'];exact Array.ext' (by rw[Array.toList_map])
  unfold Oper.wp execOp
  have e:a.eval (.func F)=.func (.func F) #[] #[]:=rfl
  have e2:(#[]++args:Array Value) ++ #[]=args:=by simp
  simp only[ho,resolve,e,ha,Deferred.ofValue,invoke,Sem.run_bind,Sem.run_pure,Result.andThen_ok]
  rw[e2,oV hF]
  exact hc.mono λe w' hC=>by
   rcases h e w' hC with⟨ch,rfl,hq⟩ |⟨v,rfl,hq⟩
   ·exact hq
   ·exact hq)
theorem di {x:Operand}{v:Value}(ho:o.op=.assign x)(hx:a.eval x=v):∀w,S w->(execOp a.eval o).run Tryz.prog w=.ok (.value v) w:=λw _=>by unfold execOp;simp only[ho,hx,Sem.run_pure]
theorem wO {k:Int}{x y:Operand}{s:ByteArray}{n:Int}(ho:o.op=.build 37 #[(0,.const (.int .i64 k)),(3,x),(2,y)])(hx:a.eval x=.string s)(hy:a.eval y=.int .i64 n):∀w,S w->(execOp a.eval o).run Tryz.prog w=.ok (.value (.agg #[.int .i64 k,.int .i64 0,.int .i64 n,.string s,.slice none 0 0])) w:=λw _=>by
 have hc:a.eval (.const (.int .i64 k))=.int .i64 k:=rfl;unfold execOp;simp only[ho,List.map_toArray,List.map_cons,List.map_nil,hx,hy,hc,Sem.run_bind,zx,Sem.run_pure,Result.andThen_ok]
theorem qd {K:Act->World->Prop}{x:Operand}{u:Int}(ho:o.op=.buildSlice 35 1 #[(0,x)])(hx:a.eval x=.int .i64 u)
  (h:K (a.put o.dst (.slice (some ⟨w.heap.size,0,none⟩) 1 1)) (w.alloc (.cells #[.int .i64 u] 3))):o.wp Tryz.prog a w K Q:=by
 unfold Oper.wp execOp;simp only[ho,List.map_toArray,List.map_cons,List.map_nil,hx];simp[go_sem];exact h
theorem N7 {K:Act->World->Prop}{x y:Operand}{u v:Int}(ho:o.op=.buildSlice 35 2 #[(0,x),(1,y)])(hx:a.eval x=.int .i64 u)(hy:a.eval y=.int .i64 v)
  (h:K (a.put o.dst (.slice (some ⟨w.heap.size,0,none⟩) 2 2)) (w.alloc (.cells #[.int .i64 u,.int .i64 v] 3))):o.wp Tryz.prog a w K Q:=by
 unfold Oper.wp execOp;simp only[ho,List.map_toArray,List.map_cons,List.map_nil,hx,hy];simp[go_sem];exact h
end
theorem aB {w:World}{ad:Addr}{n:Int}(h:w.cell? ad=some (.int .i64 n)):(Instr.loadAt 3 (.pointer (some ad))).run Tryz.prog w=.ok (.int .i64 n) w:=by simp[go_sem,h]
theorem dV {w:World}{ad:Addr}{s:ByteArray}(h:w.cell? ad=some (.string s)):(Instr.loadAt 9 (.pointer (some ad))).run Tryz.prog w=.ok (.string s) w:=by simp[go_sem,h]
theorem pQ (b:Nat)(w:World):(Instr.fieldAt 105 (.pointer (some ⟨b,0,none⟩)) 2).run Tryz.prog w=.ok (.pointer (some ⟨b,2,none⟩)) w:=by kernel_rfl
theorem pR (b:Nat)(w:World):(Instr.fieldAt 105 (.pointer (some ⟨b,0,none⟩)) 3).run Tryz.prog w=.ok (.pointer (some ⟨b,3,none⟩)) w:=by kernel_rfl
theorem Bf {X:Nat->Prop}{w:World}{base g c:Nat}{A:Option Addr}{ts:List Tok}{V:Value}{s:St}{rec:nM->St->Rs}(hZ:Rz ts rec)(h:Pz X w base g A c ts V s)(hne:gM ts rec s ≠ .out):Calls Tryz.prog 291 #[.pointer (some ⟨g,0,none⟩)] w (aM X base g A c ts V w (gM ts rec s)):=by
 have hk:Nk s 0 (gM ts rec s):=Cy ts hZ.nk s;obtain⟨R,HR⟩:∃R,R=gM ts rec s:=⟨_,rfl⟩;rw[<- HR]at hk hne |-;unfold gM at HR;dsimp only at HR;have HC:=hid (qc h);have HZ:=hid hZ;have hn:=h.hn;generalize ah ts s=t at *
 unfold aX at HC;have HK:=hid (And.intro HR (And.intro hne (And.intro hk hn)));clear HR hne hk h hZ hn;go_enter Tryz.func291,Tryz.ntmps291
 go_wp2_with (go_at_call 168;refine HC.out.mono ?_);rintro e w1 (⟨p,er,hr,rfl,hF⟩ |⟨s1,hr1,rfl,hz1,hF1⟩)<;>first|replace hr1:=hid hr1 |replace hr:=hid hr
 ·go_wp2;exact⟨rfl,.inl ⟨p,er,Rs.step_no HK.out.1 hr.out,rfl,hF⟩⟩
 have HR1:=Rs.step HK.out.1 hr1.out;obtain⟨W2,hW2⟩:∃W2,w1.alloc (.cells #[.int .i64 (t.k:Int),.int .i64 t.n,.int .i64 (t.p:Int),.string (bs t.s)] 105)=W2:=⟨_,rfl⟩;have hb2:Below w1.heap.size w1 W2:=by rw[<- hW2];exact aa _ _
 have hT:Bx W2 w1.heap.size 105 [.int .i64 (t.k:Int),.int .i64 t.n,.int .i64 (t.p:Int),.string (bs t.s)]:=by rw[<- hW2];exact Bx.new w1 105 _
 have hz2:=hz1.below hb2;have hne0:=hz1.new;have hF2:Fo w W2 g V V:=hF1.trans (Fo.below hb2);have HS:=hid (iQ hz2 [91]);cases hq:sees ts [91] s1 with
 |false=>
  rw[hq]at HS HR1;rw[if_neg (by decide)]at HR1;have HX:=hid (And.intro HR1 (And.intro hz2 (And.intro hF2 hT)));clear HR1 hz2 hF2 hz1 hF1 hT hb2;go_wp2_with (go_at_call 103;refine HS.out.mono ?_);rintro e w3 ⟨rfl,hb3⟩;obtain⟨HR1,hz2,hF2,hT⟩:=HX.out;have hT3:=hT.below hb3 hT.lt;have t2:=(hT3.cell 2).trans rfl;have t3:=(hT3.cell 3).trans rfl;have HA:=hid (mr (hz2.below hb3) 22 0 (t.p:Int) t.s none none 0 0 0 0 [] (nX _ _) ⟨rfl,Nat.le_refl _⟩ HR1 HK.out.2.2.1 HK.out.2.2.2);have HF:=hid (hF2.trans (Fo.below (V:=V) hb3));clear HR1 hz2 hF2 hT hT3;go_wp2_with (go_at_call 106;refine(HA.out).mono ?_;rintro e w3 (⟨p,er,hr,rfl,hF⟩ |⟨x,s3,V3,hr,rfl,hz,hF⟩)<;>replace hr:=hid hr)
  ·exact⟨rfl,.inl (ai HF.out hr.out hF)⟩
  ·go_ret
   exact .inr ⟨x,s3,V3,hr.out,rfl,hz,HF.out.trans hF⟩
 |true=>
  rw[hq]at HS HR1;rw[if_pos rfl]at HR1;have HX:=hid (And.intro HR1 (And.intro hz2 (And.intro hF2 hT)));clear HR1 hz2 hF2 hz1 hF1 hT hb2;go_wp2_with (go_at_call 103;refine HS.out.mono ?_);rintro e w3 ⟨rfl,hb3⟩;obtain⟨HR1,hz2,hF2,hT⟩:=HX.out;have hT3:=hT.below hb3 hT.lt;have hz3:=hz2.below hb3;have HF:=hid (hF2.trans (Fo.below (V:=V) (dW hb3)));have HI:=hid (λw' (q:Pz X w' base g A c ts V s1)=>CG HZ.out q (Rs.step_in HR1 HK.out.2.1));have HN:=hid (λ(p er:Nat) (q:kN ts rec s1=.no p er)=>Rs.step_no HR1 q);have HA:=hid (λw' V' x (s2:St) (q:Pz X w' base g A c ts V' s2) (q2:kN ts rec s1=.ok [x] s2)=>sJ q 23 0 (t.p:Int) t.s none 0 0 x (Rs.step HR1 q2 :) HK.out.2.2.1 HK.out.2.2.2);have hS:Bx {w3 with drawn:=w3.drawn+1} w1.heap.size 105 [.int .i64 (t.k:Int),.int .i64 t.n,.int .i64 (t.p:Int),.string (bs t.s)]:=hT3;have hz3:Pz X {w3 with drawn:=w3.drawn+1} base g A c ts V s1:=hz3.below (dW (Below.refl _ _));clear HR1 hz2 hF2 hT hT3 HX;have HX3:=hid (And.intro hS (And.intro hz3 hne0));clear hS hz3 hne0
  go_upto_region 3 with(fail)
  obtain⟨hS,hz3,hne⟩:=HX3.out;refine wp_region_held (S:=λw'=>Bx w' w1.heap.size 105 [.int .i64 (t.k:Int),.int .i64 t.n,.int .i64 (t.p:Int),.string (bs t.s)]) (by kernel_rfl) ?_;refine aG 0 (.pointer (some ⟨g,0,none⟩)) (by kernel_rfl) rfl rfl (λ_ _ _ h=>h) rfl (dn rfl rfl) hS ?_;simp only[ap];refine aG 1 (.pointer (some ⟨w1.heap.size,3,none⟩)) (by kernel_rfl) rfl rfl (λ_ _ _ h=>h) rfl (ay rfl rfl (pR _)) hS ?_;simp only[ap];refine aG 2 (.string (bs t.s)) (by kernel_rfl) rfl rfl (λ_ _ _ h=>h) rfl (ak rfl rfl (λw' q=>dV ((q.cell 3).trans rfl))) hS ?_;simp only[ap];refine aG 3 (.pointer (some ⟨w1.heap.size,2,none⟩)) (by kernel_rfl) rfl rfl (λ_ _ _ h=>h) rfl (ay rfl rfl (pQ _)) hS ?_;simp only[ap];refine aG 4 (.int .i64 (t.p:Int)) (by kernel_rfl) rfl rfl (λ_ _ _ h=>h) rfl (ak rfl rfl (λw' q=>aB ((q.cell 2).trans rfl))) hS ?_;simp only[ap];refine aG 5 (.agg #[.int .i64 23,.int .i64 0,.int .i64 (t.p:Int),.string (bs t.s),.slice none 0 0]) (by kernel_rfl) rfl rfl (λ_ _ _ h=>h) rfl (wO rfl rfl rfl) hS ?_;simp only[ap];refine aG 6 (.pointer (some ⟨g,0,none⟩)) (by kernel_rfl) rfl rfl (λ_ _ _ h=>h) rfl (dn rfl rfl) hS ?_;simp only[ap]
  refine aQ 7 ({dst:=some 15,op:=Op.call {callee:=Callee.value (Operand.func 298),args := #[Operand.tmp 14],argTypes := #[59]},type:=3,pos := "grammar.go:288",after := #[{on:=6,ground:=Ground.data}],guard:=none}:Oper) (args := #[.pointer (some ⟨g,0,none⟩)]) NW rfl rfl (by kernel_rfl) rfl rfl (HI.out _ hz3) ?_;rintro e w4 (⟨p,er,hr,rfl,hF⟩ |⟨x,s2,V2,hr,rfl,hz4,hF4⟩)
  ·exact .inl ⟨_,rfl,rfl,.inl (ai HF.out (HN.out _ _ hr) hF)⟩
  refine .inr ⟨_,rfl,(hF4.bx hS hne.1 hne.2).1,?_⟩;have hne4:=(hF4.bx hS hne.1 hne.2).2;have hS4:=(hF4.bx hS hne.1 hne.2).1;simp only[ap];refine dQ 8 ({dst:=some 16,op:=Op.buildSlice 35 1 #[(0,Operand.tmp 15)],type:=35,pos := "grammar.go:288",after := #[{on:=7,ground:=Ground.data}],guard:=none}:Oper) rfl (by kernel_rfl) rfl (qd rfl rfl ⟨hS4.alloc _,?_⟩);simp only[ap];refine aQ 9 ({dst:=some 17,op:=Op.call {callee:=Callee.value (Operand.func 106),args := #[Operand.tmp 8,Operand.tmp 13,Operand.tmp 16],argTypes := #[59,37,35]},type:=3,pos := "grammar.go:288",after := #[{on:=0,ground:=Ground.data},{on:=5,ground:=Ground.data},{on:=8,ground:=Ground.data},{on:=7,ground:=Ground.chain}],guard:=none}:Oper) (args := #[.pointer (some ⟨g,0,none⟩),.agg #[.int .i64 23,.int .i64 0,.int .i64 (t.p:Int),.string (bs t.s),.slice none 0 0],.slice (some ⟨w4.heap.size,0,none⟩) 1 1]) pO rfl rfl (by kernel_rfl) rfl rfl (HA.out _ _ _ _ hz4 hr) ?_;rintro e w5 (⟨p,er,hr,rfl,hF⟩ |⟨x5,s5,V5,hr,rfl,hz5,hF5⟩)
  ·exact .inl ⟨_,rfl,rfl,.inl (ai (HF.out.trans hF4) hr hF)⟩
  have hS5:=(hF5.bx hS4 hne.1 hne4).1;refine .inr ⟨_,rfl,hS5,?_⟩;simp only[ap];refine aG 10 (.int .i64 x5) (by kernel_rfl) rfl rfl (λ_ _ _ h=>h) rfl (di rfl rfl) hS5 ?_;simp only[ap];refine wpAnyH_done (by kernel_rfl) ?_ _;have hr5:=hid hr;clear hr;go_wp2
  go_ret
  exact .inr ⟨_,s5,V5,hr5.out,rfl,hz5,(HF.out.trans hF4).trans hF5⟩
end
section
open Tr (Bx aa bt eH Ints)
theorem nZ:Own 66:=⟨_,Tryz.func66,by kernel_rfl,by kernel_rfl⟩
theorem xZ:Own 126:=⟨_,Tryz.func126,by kernel_rfl,by kernel_rfl⟩
theorem aV {w:World}{g:Nat}{A:Option Addr}{n c b:Nat}{d:Int}(h0:w.cell? ⟨g,0,none⟩=some (.slice A n c))(h1:w.cell? ⟨g,1,none⟩=some (.func (.func 117) #[.pointer (some ⟨b,0,none⟩)] #[]))(h2:w.cell? ⟨g,2,none⟩=some (.int .i64 d)) :
  (Instr.loadAt 73 (.pointer (some ⟨g,0,none⟩))).run Tryz.prog w=.ok (.agg #[.slice A n c,.func (.func 117) #[.pointer (some ⟨b,0,none⟩)] #[],.int .i64 d]) w:=by simp[go_sem,h0,h1,h2]
theorem aD (b:Nat)(w:World):(Instr.fieldAt 37 (.pointer (some ⟨b,0,none⟩)) 4).run Tryz.prog w=.ok (.pointer (some ⟨b,4,none⟩)) w:=by kernel_rfl
theorem aH {w:World}{b o n c:Nat}{A:Option Addr}(h:w.cell? ⟨b,o,none⟩=some (.slice A n c)):(Instr.loadAt 35 (.pointer (some ⟨b,o,none⟩))).run Tryz.prog w=.ok (.slice A n c) w:=by simp[go_sem,h]
theorem aN (b o n c i:Nat)(hi:i<n)(w:World):(Instr.indexAt 35 (.slice (some ⟨b,o,none⟩) n c) (.int .i64 (i:Int))).run Tryz.prog w=.ok (.pointer (some ⟨b,o+i,none⟩)) w:=by
 have h:(i:Int)<(n:Int):=by omega
 simp[go_sem,Tryz.underlying35,h,Addr.add]
def SP (g2 g3:Nat)(PB NB:List Value)(bk ok:Nat)(k:Int)(w:World):Prop:=Bx w g2 73 PB/\Bx w g3 37 NB/\w.cell? ⟨bk,ok,none⟩=some (.int .i64 k)
theorem SP.kp {B b g2 g3 bk ok:Nat}{PB NB:List Value}{k:Int}{w w':World}(h:SP g2 g3 PB NB bk ok k w)(q:Kp B b w w')(h2:g2≠b)(h3:g3≠b)(hk:bk<B):SP g2 g3 PB NB bk ok k w':=
 ⟨Bx.kp h.1 q h2 (by decide),Bx.kp h.2.1 q h3 (by decide),(Below.cell q.1 (p:=⟨bk,ok,none⟩) hk).trans h.2.2⟩
theorem uO {w0:World}{A:Option Addr}{l:List Tr.Nd}{n c b f:Nat}(hr:lH w0 A l n c b f)(d kd nn pl:Int)(tx:ByteArray)(bk ok nk ck k:Nat)(t:List UInt8)(w:World)(hkf:k<f)(hkn:k<n)(he:Tr.aI (ag l k).kd=true)(hb:Below w0.heap.size w0 w)(h:Pg w0.heap.size b t w)
  (hnk:0<nk) (hbk:bk<w0.heap.size) (hck:w0.cell? ⟨bk,ok,none⟩=some (.int .i64 (k:Int)))
  (hl:t.length+(tx.data.toList++[91]++bE l f k++[93]).length<=140737488355328):Calls Tryz.prog 125 #[PV A n c b d,.agg #[.int .i64 kd,.int .i64 nn,.int .i64 pl,.string tx,.slice (some ⟨bk,ok,none⟩) nk ck]] w (aK w0.heap.size b (t++(tx.data.toList++[91]++bE l f k++[93])) (.tuple #[]) w):=by
 have H:=hid h;have HB:=hid hb;have hbw:=h.bw;have hbl:=h.lt;have HR:=hid (λt' w' (q:Below w0.heap.size w0 w') (h':Pg w0.heap.size b t' w') (hl':t'.length+(bE l f k).length<=140737488355328)=>hr k d t' w' hkf hkn he q h' hl');generalize bE l f k=y at *
 have HL:=hid hl;have HX1:=hid (show SP w.heap.size (w.heap.size+1) [.slice A n c,.func (.func 117) #[.pointer (some ⟨b,0,none⟩)] #[],.int .i64 d] [.int .i64 kd,.int .i64 nn,.int .i64 pl,.string tx,.slice (some ⟨bk,ok,none⟩) nk ck] bk ok (k:Int) ((w.alloc (.cells #[.slice A n c,.func (.func 117) #[.pointer (some ⟨b,0,none⟩)] #[],.int .i64 d] 73)).alloc (.cells #[.int .i64 kd,.int .i64 nn,.int .i64 pl,.string tx,.slice (some ⟨bk,ok,none⟩) nk ck] 37)) by
  have b1:=Bx.new w 73 [.slice A n c,.func (.func 117) #[.pointer (some ⟨b,0,none⟩)] #[],.int .i64 d];have b2:=Bx.new (w.alloc (.cells #[.slice A n c,.func (.func 117) #[.pointer (some ⟨b,0,none⟩)] #[],.int .i64 d] 73)) 37 [.int .i64 kd,.int .i64 nn,.int .i64 pl,.string tx,.slice (some ⟨bk,ok,none⟩) nk ck];have b3:=b1.alloc (.cells #[.int .i64 kd,.int .i64 nn,.int .i64 pl,.string tx,.slice (some ⟨bk,ok,none⟩) nk ck] 37);rw[World.size_alloc]at b2;refine⟨b3,b2,?_⟩;have hb2:Below w0.heap.size w0 ((w.alloc (.cells #[.slice A n c,.func (.func 117) #[.pointer (some ⟨b,0,none⟩)] #[],.int .i64 d] 73)).alloc (.cells #[.int .i64 kd,.int .i64 nn,.int .i64 pl,.string tx,.slice (some ⟨bk,ok,none⟩) nk ck] 37)):=(hb.alloc hbw _).alloc (by rw[World.size_alloc];omega) _;exact(hb2.cell (p:=⟨bk,ok,none⟩) hbk).trans hck)
 have HW1:=hid (((Kp.refl w0.heap.size b w).alloc hbw (.cells #[.slice A n c,.func (.func 117) #[.pointer (some ⟨b,0,none⟩)] #[],.int .i64 d] 73)).alloc (by rw[World.size_alloc];omega) (.cells #[.int .i64 kd,.int .i64 nn,.int .i64 pl,.string tx,.slice (some ⟨bk,ok,none⟩) nk ck] 37));unfold PV at HR;unfold PV;clear he hr hb h hl hck hkf;go_enter Tryz.func125,Tryz.ntmps125
 go_wp2_with (go_at_call 117;refine(aC w0.heap.size b t [tx.data.toList,[91]] _ ((H.out.alloc _).alloc _) (by simp;have:=HL.out;simp at this;omega) (by simp) 2 rfl _ (by simp[iq];rfl) _ (by simp[World.size_alloc])).mono ?_);rintro e w1 ⟨rfl,hp1,hk1⟩;have hS1:=SP.kp HX1.out hk1 (by omega) (by omega) hbk;have HP2:=hid hp1;have HW2:=hid (HW1.out.trans hk1);have HS2:=hid hS1;clear HX1 HW1 hp1 hk1 hS1
 go_upto_region 2 with(fail)
 obtain⟨W5,hW5⟩:∃W5:World,{w1 with drawn:=w1.drawn+1}=W5:=⟨_,rfl⟩;have hkd:Kp w0.heap.size b w1 W5:=by rw[<- hW5];exact⟨Below.drew (Below.refl _ _),(Lib.OthersKept.refl _ _ w1).drew⟩
 have hS:SP w.heap.size (w.heap.size+1) [.slice A n c,.func (.func 117) #[.pointer (some ⟨b,0,none⟩)] #[],.int .i64 d] [.int .i64 kd,.int .i64 nn,.int .i64 pl,.string tx,.slice (some ⟨bk,ok,none⟩) nk ck] bk ok (k:Int) W5:=HS2.out.kp hkd (by omega) (by omega) hbk;have hP5:Pg w0.heap.size b (t++[tx.data.toList,[91]].flatten) W5:=by rw[<- hW5];exact HP2.out
 have hw5:=HW2.out.trans hkd;refine wp_region_held (S:=SP w.heap.size (w.heap.size+1) [.slice A n c,.func (.func 117) #[.pointer (some ⟨b,0,none⟩)] #[],.int .i64 d] [.int .i64 kd,.int .i64 nn,.int .i64 pl,.string tx,.slice (some ⟨bk,ok,none⟩) nk ck] bk ok (k:Int)) (by kernel_rfl) ?_;rw[hW5];clear hW5;refine aG 0 (.agg #[.slice A n c,.func (.func 117) #[.pointer (some ⟨b,0,none⟩)] #[],.int .i64 d]) (by kernel_rfl) rfl rfl (λ_ _ _ h=>h) rfl (ak rfl rfl (λw' q=>aV ((q.1.cell 0).trans rfl) ((q.1.cell 1).trans rfl) ((q.1.cell 2).trans rfl))) hS ?_;simp only[ap];refine aG 1 (.pointer (some ⟨w.heap.size+1,4,none⟩)) (by kernel_rfl) rfl rfl (λ_ _ _ h=>h) rfl (ay rfl rfl (aD _)) hS ?_;simp only[ap];refine aG 2 (.slice (some ⟨bk,ok,none⟩) nk ck) (by kernel_rfl) rfl rfl (λ_ _ _ h=>h) rfl (ak rfl rfl (λw' q=>aH ((q.2.1.cell 4).trans rfl))) hS ?_;simp only[ap];refine aG 3 (.pointer (some ⟨bk,ok+0,none⟩)) (by kernel_rfl) rfl rfl (λ_ _ _ h=>h) rfl (bq rfl rfl rfl (λw=>aN bk ok nk ck 0 hnk w)) hS ?_;simp only[ap];refine aG 4 (.int .i64 (k:Int)) (by kernel_rfl) rfl rfl (λ_ _ _ h=>h) rfl (ak rfl rfl (λw' q=>aB q.2.2)) hS ?_;simp only[ap]
 refine aQ 5 ({dst:=some 15,op:=Op.call {callee:=Callee.value (Operand.func 66),args := #[Operand.tmp 10,Operand.tmp 14],argTypes := #[73,3]},type:=0,pos := "printer.go:183",after := #[{on:=0,ground:=Ground.data},{on:=4,ground:=Ground.data}],guard:=none}:Oper) (args := #[.agg #[.slice A n c,.func (.func 117) #[.pointer (some ⟨b,0,none⟩)] #[],.int .i64 d],.int .i64 (k:Int)]) nZ rfl rfl (by kernel_rfl) rfl rfl (HR.out _ _ (Kp.w0 HB.out hw5) hP5 (by simp;have:=HL.out;simp at this;omega)) ?_;rintro e w2 ⟨rfl,hp2,hk2⟩;have hS2:=hS.kp hk2 (by omega) (by omega) hbk;refine .inr ⟨_,rfl,hS2,?_⟩;simp only[ap];refine wpAnyH_done (by kernel_rfl) ?_ _;have HP3:=hid hp2;have HW3:=hid (hw5.trans hk2);have e1:=(hS2.1.cell 1).trans rfl;clear hS hP5 hw5 hkd HS2 HP2 HW2 hp2 hk2 hS2;go_wp2_with (go_at_call 117;refine(aC w0.heap.size b _ [[93]] _ HP3.out (by simp;have:=HL.out;simp at this;omega) (by simp) 1 rfl _ (by rfl) _ rfl).mono ?_);rintro e w3 ⟨rfl,hp3,hk3⟩;have HP4:=hid hp3;have HW4:=hid (HW3.out.trans hk3);clear HW3 HP3 hp3 hk3 e1;go_wp2
 go_end0
 exact⟨rfl,by simpa using HP4.out,HW4.out⟩
end
end Go.Proofs.YteecfjhjllajlaaGreatDoor
