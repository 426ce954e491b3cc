/- PROVED here: parts N09 of the claim. No condition but those in each theorem's own head. -/
import Derived.Test.YtedkgofehbecmaaGreatDoorU08
import Derived.Test.YtedkgofehbecmaaGreatDoorU04
import Derived.Test.YtedkgofehbecmaaGreatDoorProg
import Derived.Lib.AppendIntMem
import Derived.Lib.ItoaLen
namespace Go.Proofs.YtedkgofehbecmaaGreatDoor
open Go.Lib (hid)
section
open Go Go.RowKit
open Tr (Bx heap1 bt gen_world ret_int ret_bool cell_same)
theorem okr_ok {ts:List Tok}{o:Prop}{s s':St}{m n:Nat}{r:Rs}{v:List Int}(h:Okr ts o s m n r)(hr:r = .ok v s'):s.nx+m<=s'.nx/\s'.nx<ts.length/\s'.op=n:=by rw[hr]at h;exact h
def RecZ (ts:List Tok)(rec:Job->St->Rs):Prop:=∀(X:Nat->Prop) (w:World) (base g:Nat) (A:Option Addr) (c:Nat) (V:Value) (s:St),Pz X w base g A c ts V s ->
 (rec .una s ≠ .out->Calls Tryz.prog 278 #[.pointer (some ⟨g,0,none⟩)] w (IPost X base g A c ts V w (rec .una s))) /\
 (∀r:Nat,1<=r->r<=6->rec (.bin r) s ≠ .out->Calls Tryz.prog 272 #[.pointer (some ⟨g,0,none⟩),.int .i64 (r:Int)] w (IPost X base g A c ts V w (rec (.bin r) s))) /\
 (rec .stmt s ≠ .out->Calls Tryz.prog 213 #[.pointer (some ⟨g,0,none⟩)] w (IPost X base g A c ts V w (rec .stmt s))) /\
 (∀pl:Int,1<=s.op->rec (.stmts pl []) s ≠ .out->Calls Tryz.prog 182 #[.pointer (some ⟨g,0,none⟩),.int .i64 pl] w (IPost X base g A c ts V w (rec (.stmts pl []) s)))
structure Rz (ts:List Tok) (rec:Job->St->Rs):Prop where
 nk:JobNk rec
 ok:JobOk ts True 0 rec
 z:RecZ ts rec
theorem expr_op {ts:List Tok}{rec:Job->St->Rs}(hZ:Rz ts rec){s s':St}{v:List Int}(h:s.nx<ts.length)(e:exprM rec s = .ok v s'):s.nx+1<=s'.nx/\s'.nx<ts.length/\s'.op=s.op:=okr_ok ((hZ.ok s h).2.1 1 (by omega) (by omega) (.inl trivial)) e
theorem beg_op {ts:List Tok}(ht:TsOk ts){s s':St}{v:List Int}{x:List UInt8}(hx:x≠[])(h:s.nx<ts.length)(e:begM ts x s = .ok v s'):s.nx+1<=s'.nx/\s'.nx<ts.length/\s'.op=s.op+1:=okr_ok (ok_beg (o:=True) h ht x hx) e
set_option maxRecDepth 100000 in
set_option maxHeartbeats 1500000 in
theorem expr_z {X:Nat->Prop}{w:World}{base g c:Nat}{A:Option Addr}{ts:List Tok}{V:Value}{s:St}{rec:Job->St->Rs}(hZ:Rz ts rec)(h:Pz X w base g A c ts V s)(hne:exprM rec s ≠ .out):Calls Tryz.prog 252 #[.pointer (some ⟨g,0,none⟩)] w (IPost X base g A c ts V w (exprM rec s)):=by
 have HC:=hid ((hZ.z X w base g A c V s h).2.1 1 (by omega) (by omega) hne)
 change Hid (Calls _ _ _ _ (IPost _ _ _ _ _ _ _ _ (exprM rec s)))at HC
 generalize exprM rec s=R at *
 clear h hZ hne
 go_enter Tryz.func252,Tryz.ntmps252
 go_wp2_with (go_at_call 272;refine(HC.out).mono ?_;rintro e w3 (⟨p,er,hr,rfl,hF⟩ |⟨x,s3,V3,hr,rfl,hz3,hF3⟩)<;>replace hr:=hid hr)
 ·exact⟨rfl,.inl ⟨p,er,hr.out,rfl,hF⟩⟩
 ·go_ret
  exact .inr ⟨x,s3,V3,hr.out,rfl,hz3,hF3⟩
set_option maxRecDepth 100000 in
set_option maxHeartbeats 1500000 in
theorem index_z {X:Nat->Prop}{w:World}{base g c:Nat}{A:Option Addr}{ts:List Tok}{V:Value}{s:St}{rec:Job->St->Rs}(hZ:Rz ts rec)(h:Pz X w base g A c ts V s)(hne:idxM ts rec s ≠ .out):Calls Tryz.prog 269 #[.pointer (some ⟨g,0,none⟩)] w (IPost X base g A c ts V w (idxM ts rec s)):=by
 obtain⟨R,HR⟩:∃R,R=idxM ts rec s:=⟨_,rfl⟩
 rw[<- HR]at hne |-
 unfold idxM at HR
 have HB:=hid (begin_z h [91] (by decide))
 have HK:=hid (And.intro HR (And.intro hne (And.intro h.ok (And.intro h.px.nx hZ))))
 clear HR hne h hZ
 go_enter Tryz.func269,Tryz.ntmps269
 go_wp2_with (first|(go_at_call 181;refine(HB.out).mono ?_;rintro e w1 (⟨p,er,hr,rfl,hF⟩ |⟨s1,hr1,rfl,hz1,hF1⟩)<;>first|replace hr1:=hid hr1 |replace hr:=hid hr) |(go_at_call 252;refine(expr_z HK.out.2.2.2.2 hz1 (Rs.step_in (Rs.step HK.out.1 hr1.out) HK.out.2.1)).mono ?_;rintro e w2 (⟨p,er,hr,rfl,hF⟩ |⟨x,s2,V2,hr2,rfl,hz2,hF2⟩)<;>first|replace hr2:=hid hr2 |replace hr:=hid hr) |(go_at_call 211;refine(finish_z hz2 [93] (by decide) (by have a:=beg_op HK.out.2.2.1 (by decide) HK.out.2.2.2.1 hr1.out;have b:=expr_op HK.out.2.2.2.2 a.2.1 hr2.out;omega)).mono ?_;rintro e w3 (⟨p,er,hr,rfl,hF⟩ |⟨s3,hr3,rfl,hz3,hF3⟩)<;>first|replace hr3:=hid hr3 |replace hr:=hid hr))
 ·exact⟨rfl,.inl ⟨p,er,Rs.step_no HK.out.1 hr.out,rfl,hF⟩⟩
 ·exact⟨rfl,.inl (np_after hF1 (Rs.step_no (Rs.step HK.out.1 hr1.out) hr.out) hF)⟩
 ·exact⟨rfl,.inl (np_after (hF1.trans hF2) (Rs.step_no (Rs.step (Rs.step HK.out.1 hr1.out) hr2.out) hr.out) hF)⟩
 ·go_ret
  exact .inr ⟨x,s3,V2,(Rs.step (Rs.step (Rs.step HK.out.1 hr1.out) hr2.out) hr3.out :),rfl,hz3,(hF1.trans hF2).trans hF3⟩
theorem below2 (w:World)(a b:Obj):Below w.heap.size w ((w.alloc a).alloc b):=bt (heap1 w a) (heap1 _ b)
theorem Pz.box {X:Nat->Prop}{w w':World}{base g c:Nat}{A:Option Addr}{ts:List Tok}{V V':Value}{s:St}{t:TypeId}{l:List Value}(h:Pz X w base g A c ts V s)(f:Fo (w.alloc (.cells l.toArray t)) w' g V V'):Bx w' w.heap.size t l/\V'.ownBlock≠some w.heap.size:=f.bx (Bx.new w t l) h.new.1 h.new.2
theorem Pz.shut {X:Nat->Prop}{w:World}{base g c:Nat}{A:Option Addr}{ts:List Tok}{V:Value}{s:St}(h:Pz X w base g A c ts V s)(ho:1<=s.op):Pz X (w.setCell ⟨g,3,none⟩ (.int .i64 ((s.op:Int)-1))) base g A c ts V { s with op:=s.op-1 }/\Fo w (w.setCell ⟨g,3,none⟩ (.int .i64 ((s.op:Int)-1))) g V V:=by
 have hF:Fr (λb=>b=g) w (w.setCell ⟨g,3,none⟩ (.int .i64 ((s.op:Int)-1))):=Fr.set (E:=λb=>b=g) (Fr.refl _ _) rfl _
 have hE:=h.px.box.set_ 3 (.int .i64 ((s.op:Int)-1))
 simp only[List.set_cons_zero,List.set_cons_succ]at hE
 have h40:=h.h40
 have hop:=h.px.op
 refine⟨h.move hF (h.px.to hF ?_ h.px.nx (by show s.op-1<=100000;omega) h.px.mo) rfl (Nat.le_refl _) (by show s.op-1<=40/\s.mo<=40;omega),Fo.box hF⟩
 have e:((s.op:Int)-1)=((s.op-1:Nat):Int):=by omega
 rw[e]at hE |-
 exact hE
set_option maxRecDepth 100000 in
set_option maxHeartbeats 1500000 in
theorem truth_z {X:Nat->Prop}{w:World}{base g c:Nat}{A:Option Addr}{ts:List Tok}{V:Value}{s:St}(h:Pz X w base g A c ts V s)(hs:(tkn ts s).s≠[]):Calls Tryz.prog 287 #[.pointer (some ⟨g,0,none⟩)] w (IPost X base g A c ts V w (addM 21 (if (tkn ts s).s=wTrue then 1 else 0) (tkn ts s).p [] [] (takeS s))):=by
 have hk:Nk s 0 (addM 21 (if (tkn ts s).s=wTrue then 1 else 0) (tkn ts s).p [] [] (takeS s)):=(nk_take (nk_add _ _ _ _ _ _)).weak (by omega)
 obtain⟨R,HR⟩:∃R,R=addM 21 (if (tkn ts s).s=wTrue then 1 else 0) (tkn ts s).p [] [] (takeS s):=⟨_,rfl⟩
 rw[<- HR]at hk |-
 have HT:=hid (take_z h (.inr hs))
 have hn:=h.hn
 have HA:=hid (λ(w':World) (n:Int) (q:Pz X w' base g A c ts V (takeS s)) (e:(if (tkn ts s).s=wTrue then (1:Int) else 0)=n)=>add_z q 21 n ((tkn ts s).p:Int) [] none none 0 0 0 0 [] (kd_nil _ _) ⟨rfl,Nat.le_refl _⟩ (HR.trans (by rw[e];rfl)) hk hn)
 generalize tkn ts s=t at *
 clear hk h hs HR hn
 unfold tokV at *
 by_cases q:t.s=wTrue
 ·have he:((bs t.s).toList==[116,114,117,101])=true:=by rw[bs_toList,q];rfl
  have HQ:=hid (if_pos q:(if t.s=wTrue then (1:Int) else 0)=1)
  clear q
  go_enter Tryz.func287,Tryz.ntmps287
  go_wp2_with (first|(go_at_call 173;refine HT.out.mono ?_;rintro e w1 ⟨rfl,hz1,hF1⟩) |(go_at_call 131;refine(HA.out _ 1 (hz1.below (below2 _ _ _)) HQ.out).mono ?_;rintro e w3 (⟨p,er,hr,rfl,hF⟩ |⟨x,s3,V3,hr,rfl,hz,hF⟩)<;>replace hr:=hid hr))
  ·exact⟨rfl,.inl (np_after (hF1.trans (Fo.below (below2 _ _ _))) hr.out hF)⟩
  ·go_ret
   exact .inr ⟨x,s3,V3,hr.out,rfl,hz,(hF1.trans (Fo.below (below2 _ _ _))).trans hF⟩
 ·have he:((bs t.s).toList==[116,114,117,101])=false:=by rw[bs_toList];simpa [wTrue]using q
  have HQ:=hid (if_neg q:(if t.s=wTrue then (1:Int) else 0)=0)
  clear q
  go_enter Tryz.func287,Tryz.ntmps287
  go_wp2_with (first|(go_at_call 173;refine HT.out.mono ?_;rintro e w1 ⟨rfl,hz1,hF1⟩) |(go_at_call 131;refine(HA.out _ 0 (hz1.below (below2 _ _ _)) HQ.out).mono ?_;rintro e w3 (⟨p,er,hr,rfl,hF⟩ |⟨x,s3,V3,hr,rfl,hz,hF⟩)<;>replace hr:=hid hr))
  ·exact⟨rfl,.inl (np_after (hF1.trans (Fo.below (below2 _ _ _))) hr.out hF)⟩
  ·go_ret
   exact .inr ⟨x,s3,V3,hr.out,rfl,hz,(hF1.trans (Fo.below (below2 _ _ _))).trans hF⟩
set_option maxRecDepth 100000 in
set_option maxHeartbeats 1500000 in
theorem signed_z {X:Nat->Prop}{w:World}{base g c:Nat}{A:Option Addr}{ts:List Tok}{V:Value}{s:St}{rec:Job->St->Rs}(hZ:Rz ts rec)(h:Pz X w base g A c ts V s)(hs:(tkn ts s).s≠[])(hne:signM ts rec s ≠ .out):Calls Tryz.prog 286 #[.pointer (some ⟨g,0,none⟩)] w (IPost X base g A c ts V w (signM ts rec s)):=by
 have hk:Nk s 0 (signM ts rec s):=nk_sign ts hZ.nk s
 obtain⟨R,HR⟩:∃R,R=signM ts rec s:=⟨_,rfl⟩
 rw[<- HR]at hk hne |-
 unfold signM at HR
 dsimp only at HR
 have hf:=field36_3 (tkn ts s)
 have HC:=hid (token_z h)
 have HB:=hid (λw' (q:Below w.heap.size w w')=>begin_z (h.below q) (tkn ts s).s hs)
 have HO:=hid (λv' s' (q:begM ts (tkn ts s).s s = .ok v' s')=>beg_op h.ok hs h.px.nx q)
 have HK:=hid (And.intro HR (And.intro hne (And.intro hk (And.intro h.hn hZ))))
 generalize hv:tokV (tkn ts s)=v at hf HC
 generalize tkn ts s=t at *
 clear hs HR hne hk h hZ
 unfold tokV at HB
 clear hv
 go_enter Tryz.func286,Tryz.ntmps286
 go_wp2_with (first|(go_at_call 176;refine HC.out.mono ?_;rintro e w1 ⟨rfl,hb1⟩) |(go_at_call 181;refine(HB.out _ hb1).mono ?_;rintro e w2 (⟨p,er,hr,rfl,hF⟩ |⟨s1,hr1,rfl,hz2,hF2⟩)<;>first|replace hr1:=hid hr1 |replace hr:=hid hr) |(go_at_call 278;refine((HK.out.2.2.2.2.z X _ base g A c V s1 (hz2.below (heap1 _ _))).1 (Rs.step_in (Rs.step HK.out.1 hr1.out) HK.out.2.1)).mono ?_))
 ·exact⟨rfl,.inl (np_after (Fo.below hb1) (Rs.step_no HK.out.1 hr.out) hF)⟩
 rintro e w3 (⟨p,er,hr,rfl,hF⟩ |⟨x,s2,V2,hr2,rfl,hz3,hF3⟩)<;>first|replace hr2:=hid hr2 |replace hr:=hid hr
 ·exact⟨rfl,.inl (np_after (((Fo.below hb1).trans hF2).trans (Fo.below (heap1 _ _))) (Rs.step_no (Rs.step HK.out.1 hr1.out) hr.out) hF)⟩
 ·have hop:1<=s2.op:=by
   have a:=HO.out _ _ hr1.out
   have b:=okr_ok ((HK.out.2.2.2.2.ok s1 a.2.1).1 (.inl trivial)) hr2.out
   omega
  have HR2:=Rs.step (Rs.step HK.out.1 hr1.out) hr2.out
  obtain⟨hz4,hF4⟩:=hz3.shut hop
  have hT:=(hz2.box hF3).1
  have d3:=(hz3.px.box.cell 3).trans rfl
  have fd3:=hz3.px.box.frozen 3
  have hT4:=hT.far (p:=⟨g,3,none⟩) hz2.new.1 (.int .i64 ((s2.op:Int)-1))
  obtain⟨W4,hW4⟩:∃W4,w3.setCell ⟨g,3,none⟩ (.int .i64 ((s2.op:Int)-1))=W4:=⟨_,rfl⟩
  rw[hW4]at hz4 hF4 hT4
  have t2:=(hT4.cell 2).trans rfl
  have t3:=(hT4.cell 3).trans rfl
  have HA:=hid (add_s1 hz4 26 0 (t.p:Int) t.s none 0 0 x HR2 HK.out.2.2.1 HK.out.2.2.2.1)
  have HF:=hid ((((Fo.below hb1).trans hF2).trans (Fo.below (V:=V) (heap1 _ _))).trans (hF3.trans hF4))
  have hopz:=hz3.px.op
  clear hT hT4 hz2 hz3 hF2 hF3 hz4 hF4 HR2 hr1 hr2
  go_wp2_with (go_at_call 131;refine(HA.out).mono ?_;rintro e w4 (⟨p,er,hr,rfl,hF⟩ |⟨x4,s4,V4,hr,rfl,hz,hF⟩)<;>first|replace hr:=hid hr |replace hr:=hid hr)
  ·exact⟨rfl,.inl (np_after HF.out hr.out hF)⟩
  ·go_ret
   exact .inr ⟨_,s4,V4,hr.out,rfl,hz,HF.out.trans hF⟩
end
section
open Go Go.RowKit
open Tr (Bx heap1 bt gen_world ret_int ret_bool cell_same)
def Own (F:Nat):Prop:=∃fn,Tryz.prog.funcs[F]?=some fn/\(fn.name == "runtime.NumGoroutine")=false/\fn.body.isNone=false
theorem run_own {F:Nat}(h:Own F)(args:Array Value)(w:World):(callFunc F args).run Tryz.prog w = .ok (.enter F args) w:=by
 obtain⟨fn,h1,h2,h3⟩:=h
 simp only[callFunc,Sem.run_bind,run_program,Result.andThen_ok,h1,h2,h3,Bool.false_eq_true,if_false,Sem.run_pure]
theorem own44:Own 131:=⟨_,Tryz.func131,by kernel_rfl,by kernel_rfl⟩
theorem own66:Own 252:=⟨_,Tryz.func252,by kernel_rfl,by kernel_rfl⟩
theorem own154:Own 269:=⟨_,Tryz.func269,by kernel_rfl,by kernel_rfl⟩
theorem own156:Own 271:=⟨_,Tryz.func271,by kernel_rfl,by kernel_rfl⟩
theorem own136:Own 254:=⟨_,Tryz.func254,by kernel_rfl,by kernel_rfl⟩
theorem own78:Own 182:=⟨_,Tryz.func182,by kernel_rfl,by kernel_rfl⟩
theorem run_build39 (k n:Int)(s:ByteArray)(w:World):(Instr.build 50 #[(0,.int .i64 k),(3,.string s),(2,.int .i64 n)]).run Tryz.prog w = .ok (.agg #[.int .i64 k,.int .i64 0,.int .i64 n,.string s,.slice none 0 0]) w:=by kernel_rfl
section
variable {ops:Array Oper} {Q:Exit->Act->World->Prop} {S:World->Prop} {fuel:Nat} {listed:Array Bool} {a:Act} {w:World} {o:Oper}
theorem h_callx (i:Nat)(o:Oper){F:Nat}{xs:Array Operand}{ts:Array TypeId}{args:Array Value}{C:Ending->World->Prop}(hF:Own F)(ho:o.op = .call { callee :=.value (.func F),args:=xs,argTypes:=ts })(hi:ops[i]?=some o)(hr:Region.ready .any ops listed=[i])
  (hw:Region.wanted o (yielded ops a.tmps)=true) (ha':(xs.toList.map a.eval).toArray=args) (hc:Calls Tryz.prog F args w C)
  (h:∀e w',C e w'->(∃ch,e = .panicked ch/\Q (.panic ch) a w')\/∃v,e = .returned v/\S w'/\wpAnyH Tryz.prog .any ops Q S fuel (listed.setIfInBounds i true) (a.put o.dst v) w'):wpAnyH Tryz.prog .any ops Q S (fuel+1) listed a w:=
 h_one i o hi hr hw (by
  have ha:xs.map a.eval=args:=by rw[<- ha'];exact Array.ext' (by rw[Array.toList_map])
  unfold Oper.wp execOp
  have e:a.eval (.func F) = .func (.func F) #[] #[]:=rfl
  have e2:(#[]++args:Array Value) ++ #[]=args:=by simp
  simp only[ho,resolve,e,ha,Deferred.ofValue,invoke,Sem.run_bind,Sem.run_pure,Result.andThen_ok]
  rw[e2,run_own hF]
  exact hc.mono λe w' hC=>by
   rcases h e w' hC with⟨ch,rfl,hq⟩ |⟨v,rfl,hq⟩
   ·exact hq
   ·exact hq)
theorem y_assign {x:Operand}{v:Value}(ho:o.op = .assign x)(hx:a.eval x=v):∀w,S w->(execOp a.eval o).run Tryz.prog w = .ok (.value v) w:=λw _=>by unfold execOp;simp only[ho,hx,Sem.run_pure]
theorem y_build39 {k:Int}{x y:Operand}{s:ByteArray}{n:Int}(ho:o.op = .build 50 #[(0,.const (.int .i64 k)),(3,x),(2,y)])(hx:a.eval x = .string s)(hy:a.eval y = .int .i64 n):∀w,S w->(execOp a.eval o).run Tryz.prog w = .ok (.value (.agg #[.int .i64 k,.int .i64 0,.int .i64 n,.string s,.slice none 0 0])) w:=λw _=>by
 have hc:a.eval (.const (.int .i64 k)) = .int .i64 k:=rfl
 unfold execOp;simp only[ho,List.map_toArray,List.map_cons,List.map_nil,hx,hy,hc,Sem.run_bind,run_build39,Sem.run_pure,Result.andThen_ok]
theorem slice1 {K:Act->World->Prop}{x:Operand}{u:Int}(ho:o.op = .buildSlice 28 1 #[(0,x)])(hx:a.eval x = .int .i64 u)
  (h:K (a.put o.dst (.slice (some ⟨w.heap.size,0,none⟩) 1 1)) (w.alloc (.cells #[.int .i64 u] 3))):o.wp Tryz.prog a w K Q:=by
 unfold Oper.wp execOp
 simp only[ho,List.map_toArray,List.map_cons,List.map_nil,hx]
 simp[go_sem]
 exact h
theorem slice2 {K:Act->World->Prop}{x y:Operand}{u v:Int}(ho:o.op = .buildSlice 28 2 #[(0,x),(1,y)])(hx:a.eval x = .int .i64 u)(hy:a.eval y = .int .i64 v)
  (h:K (a.put o.dst (.slice (some ⟨w.heap.size,0,none⟩) 2 2)) (w.alloc (.cells #[.int .i64 u,.int .i64 v] 3))):o.wp Tryz.prog a w K Q:=by
 unfold Oper.wp execOp
 simp only[ho,List.map_toArray,List.map_cons,List.map_nil,hx,hy]
 simp[go_sem]
 exact h
end
theorem run_load3 {w:World}{ad:Addr}{n:Int}(h:w.cell? ad=some (.int .i64 n)):(Instr.loadAt 3 (.pointer (some ad))).run Tryz.prog w = .ok (.int .i64 n) w:=by simp[go_sem,h]
theorem run_load9 {w:World}{ad:Addr}{s:ByteArray}(h:w.cell? ad=some (.string s)):(Instr.loadAt 9 (.pointer (some ad))).run Tryz.prog w = .ok (.string s) w:=by simp[go_sem,h]
theorem run_field36_2 (b:Nat)(w:World):(Instr.fieldAt 186 (.pointer (some ⟨b,0,none⟩)) 2).run Tryz.prog w = .ok (.pointer (some ⟨b,2,none⟩)) w:=by kernel_rfl
theorem run_field36_3 (b:Nat)(w:World):(Instr.fieldAt 186 (.pointer (some ⟨b,0,none⟩)) 3).run Tryz.prog w = .ok (.pointer (some ⟨b,3,none⟩)) w:=by kernel_rfl
set_option maxRecDepth 100000 in
set_option maxHeartbeats 1500000 in
theorem variable_z {X:Nat->Prop}{w:World}{base g c:Nat}{A:Option Addr}{ts:List Tok}{V:Value}{s:St}{rec:Job->St->Rs}(hZ:Rz ts rec)(h:Pz X w base g A c ts V s)(hne:variM ts rec s ≠ .out):Calls Tryz.prog 285 #[.pointer (some ⟨g,0,none⟩)] w (IPost X base g A c ts V w (variM ts rec s)):=by
 have hk:Nk s 0 (variM ts rec s):=nk_vari ts hZ.nk s
 obtain⟨R,HR⟩:∃R,R=variM ts rec s:=⟨_,rfl⟩
 rw[<- HR]at hk hne |-
 unfold variM at HR
 dsimp only at HR
 have HC:=hid (name_z h)
 have HZ:=hid hZ
 have hn:=h.hn
 generalize tkn ts s=t at *
 unfold tokV at HC
 have HK:=hid (And.intro HR (And.intro hne (And.intro hk hn)))
 clear HR hne hk h hZ hn
 go_enter Tryz.func285,Tryz.ntmps285
 go_wp2_with (go_at_call 177;refine HC.out.mono ?_)
 rintro e w1 (⟨p,er,hr,rfl,hF⟩ |⟨s1,hr1,rfl,hz1,hF1⟩)<;>first|replace hr1:=hid hr1 |replace hr:=hid hr
 ·go_wp2
  exact⟨rfl,.inl ⟨p,er,Rs.step_no HK.out.1 hr.out,rfl,hF⟩⟩
 have HR1:=Rs.step HK.out.1 hr1.out
 obtain⟨W2,hW2⟩:∃W2,w1.alloc (.cells #[.int .i64 (t.k:Int),.int .i64 t.n,.int .i64 (t.p:Int),.string (bs t.s)] 186)=W2:=⟨_,rfl⟩
 have hb2:Below w1.heap.size w1 W2:=by rw[<- hW2];exact heap1 _ _
 have hT:Bx W2 w1.heap.size 186 [.int .i64 (t.k:Int),.int .i64 t.n,.int .i64 (t.p:Int),.string (bs t.s)]:=by rw[<- hW2];exact Bx.new w1 186 _
 have hz2:=hz1.below hb2
 have hne0:=hz1.new
 have hF2:Fo w W2 g V V:=hF1.trans (Fo.below hb2)
 have HS:=hid (sees_z hz2 [91])
 cases hq:sees ts [91] s1 with
 |false=>
  rw[hq]at HS HR1
  rw[if_neg (by decide)]at HR1
  have HX:=hid (And.intro HR1 (And.intro hz2 (And.intro hF2 hT)))
  clear HR1 hz2 hF2 hz1 hF1 hT hb2
  go_wp2_with (go_at_call 128;refine HS.out.mono ?_)
  rintro e w3 ⟨rfl,hb3⟩
  obtain⟨HR1,hz2,hF2,hT⟩:=HX.out
  have hT3:=hT.below hb3 hT.lt
  have t2:=(hT3.cell 2).trans rfl
  have t3:=(hT3.cell 3).trans rfl
  have HA:=hid (add_z (hz2.below hb3) 22 0 (t.p:Int) t.s none none 0 0 0 0 [] (kd_nil _ _) ⟨rfl,Nat.le_refl _⟩ HR1 HK.out.2.2.1 HK.out.2.2.2)
  have HF:=hid (hF2.trans (Fo.below (V:=V) hb3))
  clear HR1 hz2 hF2 hT hT3
  go_wp2_with (go_at_call 131;refine(HA.out).mono ?_;rintro e w3 (⟨p,er,hr,rfl,hF⟩ |⟨x,s3,V3,hr,rfl,hz,hF⟩)<;>replace hr:=hid hr)
  ·exact⟨rfl,.inl (np_after HF.out hr.out hF)⟩
  ·go_ret
   exact .inr ⟨x,s3,V3,hr.out,rfl,hz,HF.out.trans hF⟩
 |true=>
  rw[hq]at HS HR1
  rw[if_pos rfl]at HR1
  have HX:=hid (And.intro HR1 (And.intro hz2 (And.intro hF2 hT)))
  clear HR1 hz2 hF2 hz1 hF1 hT hb2
  go_wp2_with (go_at_call 128;refine HS.out.mono ?_)
  rintro e w3 ⟨rfl,hb3⟩
  obtain⟨HR1,hz2,hF2,hT⟩:=HX.out
  have hT3:=hT.below hb3 hT.lt
  have hz3:=hz2.below hb3
  have HF:=hid (hF2.trans (Fo.below (V:=V) (bdrew hb3)))
  have HI:=hid (λw' (q:Pz X w' base g A c ts V s1)=>index_z HZ.out q (Rs.step_in HR1 HK.out.2.1))
  have HN:=hid (λ(p er:Nat) (q:idxM ts rec s1 = .no p er)=>Rs.step_no HR1 q)
  have HA:=hid (λw' V' x (s2:St) (q:Pz X w' base g A c ts V' s2) (q2:idxM ts rec s1 = .ok [x] s2)=>add_s1 q 23 0 (t.p:Int) t.s none 0 0 x (Rs.step HR1 q2 :) HK.out.2.2.1 HK.out.2.2.2)
  have hS:Bx { w3 with drawn:=w3.drawn+1 } w1.heap.size 186 [.int .i64 (t.k:Int),.int .i64 t.n,.int .i64 (t.p:Int),.string (bs t.s)]:=hT3
  have hz3:Pz X { w3 with drawn:=w3.drawn+1 } base g A c ts V s1:=hz3.below (bdrew (Below.refl _ _))
  clear HR1 hz2 hF2 hT hT3 HX
  have HX3:=hid (And.intro hS (And.intro hz3 hne0))
  clear hS hz3 hne0
  go_upto_region 3 with(fail)
  obtain⟨hS,hz3,hne⟩:=HX3.out
  refine wp_region_held (S:=λw'=>Bx w' w1.heap.size 186 [.int .i64 (t.k:Int),.int .i64 t.n,.int .i64 (t.p:Int),.string (bs t.s)]) (by kernel_rfl) ?_
  refine hpu 0 (.pointer (some ⟨g,0,none⟩)) (by kernel_rfl) rfl rfl (λ_ _ _ h=>h) rfl (y_move rfl rfl) hS ?_
  simp only[ap]
  refine hpu 1 (.pointer (some ⟨w1.heap.size,3,none⟩)) (by kernel_rfl) rfl rfl (λ_ _ _ h=>h) rfl (y_field rfl rfl (run_field36_3 _)) hS ?_
  simp only[ap]
  refine hpu 2 (.string (bs t.s)) (by kernel_rfl) rfl rfl (λ_ _ _ h=>h) rfl (y_load rfl rfl (λw' q=>run_load9 ((q.cell 3).trans rfl))) hS ?_
  simp only[ap]
  refine hpu 3 (.pointer (some ⟨w1.heap.size,2,none⟩)) (by kernel_rfl) rfl rfl (λ_ _ _ h=>h) rfl (y_field rfl rfl (run_field36_2 _)) hS ?_
  simp only[ap]
  refine hpu 4 (.int .i64 (t.p:Int)) (by kernel_rfl) rfl rfl (λ_ _ _ h=>h) rfl (y_load rfl rfl (λw' q=>run_load3 ((q.cell 2).trans rfl))) hS ?_
  simp only[ap]
  refine hpu 5 (.agg #[.int .i64 23,.int .i64 0,.int .i64 (t.p:Int),.string (bs t.s),.slice none 0 0]) (by kernel_rfl) rfl rfl (λ_ _ _ h=>h) rfl (y_build39 rfl rfl rfl) hS ?_
  simp only[ap]
  refine hpu 6 (.pointer (some ⟨g,0,none⟩)) (by kernel_rfl) rfl rfl (λ_ _ _ h=>h) rfl (y_move rfl rfl) hS ?_
  simp only[ap]
  refine h_callx 7 ({ dst:=some 15,op:=Op.call { callee:=Callee.value (Operand.func 269),args := #[Operand.tmp 14],argTypes := #[114] },type:=3,pos := "grammar.go:288",after := #[{ on:=6,ground:=Ground.data }],guard:=none }:Oper) (args := #[.pointer (some ⟨g,0,none⟩)]) own154 rfl rfl (by kernel_rfl) rfl rfl (HI.out _ hz3) ?_
  rintro e w4 (⟨p,er,hr,rfl,hF⟩ |⟨x,s2,V2,hr,rfl,hz4,hF4⟩)
  ·exact .inl ⟨_,rfl,rfl,.inl (np_after HF.out (HN.out _ _ hr) hF)⟩
  refine .inr ⟨_,rfl,(hF4.bx hS hne.1 hne.2).1,?_⟩
  have hne4:=(hF4.bx hS hne.1 hne.2).2
  have hS4:=(hF4.bx hS hne.1 hne.2).1
  simp only[ap]
  refine h_one 8 ({ dst:=some 16,op:=Op.buildSlice 28 1 #[(0,Operand.tmp 15)],type:=28,pos := "grammar.go:288",after := #[{ on:=7,ground:=Ground.data }],guard:=none }:Oper) rfl (by kernel_rfl) rfl (slice1 rfl rfl ⟨hS4.alloc _,?_⟩)
  simp only[ap]
  refine h_callx 9 ({ dst:=some 17,op:=Op.call { callee:=Callee.value (Operand.func 131),args := #[Operand.tmp 8,Operand.tmp 13,Operand.tmp 16],argTypes := #[114,50,28] },type:=3,pos := "grammar.go:288",after := #[{ on:=0,ground:=Ground.data },{ on:=5,ground:=Ground.data },{ on:=8,ground:=Ground.data },{ on:=7,ground:=Ground.chain }],guard:=none }:Oper) (args := #[.pointer (some ⟨g,0,none⟩),.agg #[.int .i64 23,.int .i64 0,.int .i64 (t.p:Int),.string (bs t.s),.slice none 0 0],.slice (some ⟨w4.heap.size,0,none⟩) 1 1]) own44 rfl rfl (by kernel_rfl) rfl rfl (HA.out _ _ _ _ hz4 hr) ?_
  rintro e w5 (⟨p,er,hr,rfl,hF⟩ |⟨x5,s5,V5,hr,rfl,hz5,hF5⟩)
  ·exact .inl ⟨_,rfl,rfl,.inl (np_after (HF.out.trans hF4) hr hF)⟩
  have hS5:=(hF5.bx hS4 hne.1 hne4).1
  refine .inr ⟨_,rfl,hS5,?_⟩
  simp only[ap]
  refine hpu 10 (.int .i64 x5) (by kernel_rfl) rfl rfl (λ_ _ _ h=>h) rfl (y_assign rfl rfl) hS5 ?_
  simp only[ap]
  refine wpAnyH_done (by kernel_rfl) ?_ _
  have hr5:=hid hr
  clear hr
  go_wp2
  go_ret
  exact .inr ⟨_,s5,V5,hr5.out,rfl,hz5,(HF.out.trans hF4).trans hF5⟩
end
end Go.Proofs.YtedkgofehbecmaaGreatDoor
namespace Go.Proofs.YtedkgofehbecmaaGreatDoor
open Go.Lib (hid)
open Go Go.RowKit
open Tr (Bx heap1 bt Nds Ints)
theorem run_slice35 (b off n c:Nat)(h1:1<=n)(w:World):(Instr.sliceAt 28 (.slice (some ⟨b,off,none⟩) n c) (some (.int .i64 1)) none none).run Tryz.prog w = .ok (.slice (some ⟨b,if c=1 then off else off+1,none⟩) (n-1) (c-1)) w:=by
 have h:(1:Int)<=(n:Int):=by omega
 simp[go_sem,Tryz.underlying28,h]
 split<;>rfl
section
variable {a:Act} {o:Oper} {S:World->Prop}
theorem y_slice1 {x:Operand}{u r:Value}(ho:o.op = .slice 28 x (some (.const (.int .i64 1))) none none)(hx:a.eval x=u)(hr:∀w,(Instr.sliceAt 28 u (some (.int .i64 1)) none none).run Tryz.prog w = .ok r w):∀w,S w->(execOp a.eval o).run Tryz.prog w = .ok (.value r) w:=λw _=>by
 have hc:a.eval (.const (.int .i64 1)) = .int .i64 1:=rfl
 unfold execOp
 simp only[ho,hx,hc,Option.map_some,Option.map_none,Sem.run_bind,hr w,Sem.run_pure,Result.andThen_ok]
end
end Go.Proofs.YtedkgofehbecmaaGreatDoor
namespace Go.Proofs.YtedkgofehbecmaaGreatDoor
open Go.Lib (hid)
open Go Go.RowKit
open Tr (Bx heap1 bt Nds Ints)
def Caps (w0:World)(A:Option Addr)(l:List Tr.Nd):Prop:=∀(p:Nat) (bA off:Nat) (K:Option Addr) (m c:Nat),p<l.length->A=some ⟨bA,off,none⟩->w0.cell? ⟨bA,off+p*5+4,none⟩=some (.slice K m c)->(ndA l p).kd=13->2<=m->c≠1
end Go.Proofs.YtedkgofehbecmaaGreatDoor
namespace Go.Proofs.YtedkgofehbecmaaGreatDoor
open Go.Lib (hid)
section
open Go
open Tr (nth stmB expB allB kidB ndB shB risB run1 ri1 ri2 numB txB idB sgB)
theorem shB_at {l:List Tr.Nd}(h:shB l=true){p:Nat}(hp:p<l.length):ndB l (ndA l p)=true:=by
 rw[ndA_eq hp];exact List.all_eq_true.1 h _ (List.getElem_mem hp)
def kdsA (l:List Tr.Nd)(p:Int):List Int:=(ndA l p).ks.map λk=>(ndA l k).kd
structure NdOk (l:List Tr.Nd) (p:Nat):Prop where
 lo:1<=(ndA l p).kd
 hi:(ndA l p).kd<=27
 tx:txB (ndA l p).kd (txA l p)=true
 num:numB (ndA l p).kd (ndA l p).n=true
 kid:kidB (ndA l p).kd (kdsA l p)=true
theorem nd_ok {l:List Tr.Nd}(h:shB l=true){p:Nat}(hp:p<l.length):NdOk l p:=by
 have h1:=shB_at h hp
 unfold ndB at h1
 simp only[Bool.and_eq_true,decide_eq_true_eq]at h1
 obtain⟨a,b,c,d,e⟩:=h1
 exact⟨a,b,c,d,e⟩
theorem len_one {α:Type}{ks:List α}(h:ks.length=1):∃a,ks=[a]:=by
 rcases ks with _ |⟨a,_ |⟨b,r⟩⟩
 ·cases h
 ·exact⟨a,rfl⟩
 ·simp at h
theorem len_two {α:Type}{ks:List α}(h:ks.length=2):∃a b,ks=[a,b]:=by
 rcases ks with _ |⟨a,_ |⟨b,_ |⟨c,r⟩⟩⟩
 ·cases h
 ·simp at h
 ·exact⟨a,b,rfl⟩
 ·simp at h
theorem len_three {α:Type}{ks:List α}(h:ks.length=3):∃a b c,ks=[a,b,c]:=by
 rcases ks with _ |⟨a,_ |⟨b,_ |⟨c,_ |⟨d,r⟩⟩⟩⟩
 ·cases h
 ·simp at h
 ·simp at h
 ·exact⟨a,b,c,rfl⟩
 ·simp at h
theorem kds_mem {l:List Tr.Nd}{p k:Int}(hk:k ∈ (ndA l p).ks):(ndA l k).kd ∈ kdsA l p:=List.mem_map.2 ⟨k,hk,rfl⟩
theorem run1_take (a:Int):∀(l:List Int),∀x ∈ l.take (run1 a l),x=a
 | [],x,h=>by cases h
 |y :: l,x,h=>by
  unfold run1 at h
  split at h
  case isTrue e=>
   rw[List.take_succ_cons]at h
   rcases List.mem_cons.1 h with rfl |h
   ·exact e
   ·exact run1_take a l x h
  case isFalse=>rw[List.take_zero]at h;cases h
theorem ri2_take (l:List Int)(a b:Int):∀x ∈ l.take (ri2 l a b),x=a\/x=b:=λx h=>by
 unfold ri2 at h
 rw[List.take_add]at h
 rcases List.mem_append.1 h with h |h
 ·exact Or.inl (run1_take a l x h)
 ·exact Or.inr (run1_take b _ x h)
theorem ris_all {l:List Int}{a b:Int}(h:risB l a b 0=true):∀x ∈ l,x=a\/x=b:=λx hx=>by
 unfold risB at h
 rw[if_pos rfl,decide_eq_true_eq]at h
 have:=ri2_take l a b x
 rw[h,List.take_length]at this
 exact this hx
theorem ris_last {l:List Int}{a b c:Int}(hc:c≠0)(h:risB l a b c=true):∃l',l=l'++[c]/\∀x ∈ l',x=a\/x=b:=by
 unfold risB at h
 rw[if_neg hc]at h
 simp only[Bool.and_eq_true,decide_eq_true_eq]at h
 obtain⟨h1,h2⟩:=h
 refine⟨l.take (ri2 l a b),?_,ri2_take l a b⟩
 have hi:ri2 l a b<l.length:=by omega
 have e:l.take (ri2 l a b+1)=l.take (ri2 l a b)++[l[ri2 l a b]]:=List.take_succ_eq_append_getElem hi
 rw[List.getD_eq_getElem?_getD,List.getElem?_eq_getElem hi]at h2
 rw[h1,List.take_length]at e
 rw[show l[ri2 l a b]=c from h2]at e
 exact e
end
section
open Go
open Tr (nth stmB expB allB kidB ndB shB risB numB txB idB sgB)
theorem kidA_0 {l:List Tr.Nd}{p a:Int}{ks:List Int}(h:(ndA l p).ks=a :: ks):kidA l p 0=a:=by unfold kidA;rw[h];rfl
open Tr (StU stK kidsAt) in
theorem kidsAt_ks {l:List Tr.Nd}{p:Nat}(hp:p<l.length):kidsAt l p=(ndA l p).ks:=by
 unfold kidsAt;rw[ndA_eq hp];simp[List.getD,hp]
open Tr (StU stK kidsAt) in
theorem ahead_of {l:List Tr.Nd}{b:Nat->Nat}(hS:StU l b l.length)(hb:∀q,q<l.length->b q<=q):Ahead l:=λi hi k hk=>by
 have h1:=hS i hi
 rw[kidsAt_ks hi,ndA_eq hi]at h1
 obtain⟨m,e,h2,_⟩:=Tr.stK_mem _ i (b i) (λq hq=>hb q (by omega)) h1 k (List.mem_reverse.2 hk)
 omega
end
end Go.Proofs.YtedkgofehbecmaaGreatDoor
