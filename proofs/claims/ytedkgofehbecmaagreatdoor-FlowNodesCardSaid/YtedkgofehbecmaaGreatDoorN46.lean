/- PROVED here: parts Hb NodTL NodTK NodTR of the claim. No condition but those in each theorem's own head. -/
import Derived.Test.YtedkgofehbecmaaGreatDoorN45
import Derived.Test.YtedkgofehbecmaaGreatDoorN01
import Derived.Test.YtedkgofehbecmaaGreatDoorN24
import Derived.SevenTiedAt
import Derived.ChangeMaps5
import Derived.Test.YtedkgofehbecmaaGreatDoorRows
import Derived.JoinedOf
namespace Go.Proofs.YtedkgofehbecmaaGreatDoor
open Go Go.RowKit
open Tr (Nds)
theorem flowNodes_w (A:Option Addr)(c:Nat)(l:List Tr.Nd)(r:Int)(w:World)(hE:Tk.Errs w)(hN:Nds w A l)(hnum:∀x ∈ l,x.n≤9223372036854775807)(hc:Caps w A l):Calls Tryz.prog 6 #[.agg #[.slice A l.length c,.int .i64 r]] w (VPost (.bool true) w):=flowNodes_any A c l.length l r w rfl hE hN hnum hc
end Go.Proofs.YtedkgofehbecmaaGreatDoor
namespace Go.Proofs.YtedkgofehbecmaaGreatDoor
open Go Go.ChangeShapes Go.WideShapes Go.ChangeAt Go.RowKit
set_option maxRecDepth 100000 in
theorem flowNodes_lifted (os:Os)(started:os.Started)(H:Type)(enc:TypeId × Value→H) :
  ReturnsInHanded {} Tryz.checked os 6 .any (fun w args=>(Rows.flowNodesSpec.pre enc Tryz.prog Tryz.f6 [] false w args∧laidMetH Tryz.prog laid5 w)∧sizedMet enc Tryz.prog Tryz.f6 (OpenSpec.ofChange Rows.flowNodesSpec) false w args)
   (Rows.flowNodesSpec.post enc Tryz.prog Tryz.f6 false true false false):=by
 refine returnsInHanded_of_change_and (C:=Tryz.checked) (X:=fun w _=>laidMetH Tryz.prog laid5 w) (fun _ _ _ hh h=>h.of_heap hh) ownK started (by kernel_rfl) Tryz.func6
  (ChangeSpec.witness_shaped (enc:=enc) (C:=Tryz.checked) (os:=os) (X:=fun w _=>laidMetH Tryz.prog laid5 w) false (World.doorLaid Tryz.prog 62 os) #[.agg #[.slice none 0 0,.int .i64 0]] 8 rfl (World.shaped_of_RefB (by kernel_rfl) (by kernel_rfl)) (by kernel_rfl) (by kernel_rfl) (by kernel_rfl) (door_met os _)) ?_
 intro W base args ds gs before hval0 hW _ _ hL _
 have hval:∀(j:Nat) t v,Tryz.f6.params[j]?=some t→args[j]?=some v→Value.okWide Tryz.prog W .any base t v:=hval0
 have hW':=hW
 obtain⟨p,q,hA0,hV,rfl,hfz,hnd⟩:=hW
 have hA:DataW.TrodAll enc Tryz.prog W 0 (fun _=>true) true Tryz.f6.params.toList args.toList ds p:=hA0
 rw[Tryz.params6]at hA hval
 obtain⟨v0,vs0,d0,ds0,p0,q0,hargs,rfl,rfl,h0,r0⟩:=trodAll_cons hA
 obtain⟨rfl,rfl,rfl⟩:=trodAll_nil r0
 obtain rfl:args = #[v0]:=by cases args;simp_all
 obtain⟨rfl,rfl⟩:=trodVars_none hV
 have hT:=errs_of_laid hL
 clear hA0 hval0
 simp only[List.append_nil]at hW'
 have hlt:∀x ∈ p0,x.block<W.heap.size:=fun x hx=>by simpa using hW'.lt x (by simpa using hx)
 obtain⟨A0,c0,l0,r0t,rfl,hN0,hc0,hm0,hC0⟩:=Vw.viewTr (hval 0 24 v0 rfl rfl) h0
 refine(flowNodes_w A0 c0 l0 r0t W hT hN0 hm0 hC0).mono ?_
 rintro e W' ⟨rfl,hnx⟩
 refine⟨_,rfl,_,_,_,[],_,[],hW',trodAll_cons_mk (shut_bool lit4 _) trodAll_mk0,trodAll_cons_mk (Below.trod laidOut (by kernel_rfl) (of_decide_eq_true (by kernel_rfl)) h0 hnx (fun x hx=>hlt x (by simp[hx]))) trodAll_mk0,rfl,hnx.frame _,fun h=>by cases h⟩
end Go.Proofs.YtedkgofehbecmaaGreatDoor
namespace Go.Proofs.YtedkgofehbecmaaGreatDoor
open Go Go.ChangeShapes Go.WideShapes Go.ChangeAt Go.RowKit
theorem flowNodes_and {a b:Bool}(h:a=true)(k:b=true):(a&&b)=true:=by rw[h,k];rfl
theorem flowNodes_k0:(Rows.flowNodesRow.wf (OpenSpec.ofChange Rows.flowNodesSpec))=true:=by kernel_rfl
theorem flowNodes_k1:(laidOutB Tryz.prog)=true:=by kernel_rfl
theorem flowNodes_k2:(mapsRowed Tryz.prog)=true:=by kernel_rfl
theorem flowNodes_k3:(Tryz.f6.params.all (Tryz.prog.readableRec ·))=true:=by kernel_rfl
theorem flowNodes_k4:(namedTie Tryz.prog Rows.flowNodesRow.named Rows.flowNodesSpec.vars)=true:=by kernel_rfl
theorem flowNodes_k5:((Rows.flowNodesRow.stops==[]))=true:=by kernel_rfl
theorem flowNodes_k6:((Tryz.prog.stops==[]))=true:=by kernel_rfl
theorem flowNodes_k7:((Rows.flowNodesRow.knobs==[]))=true:=by kernel_rfl
theorem flowNodes_k8:((Tryz.prog.stopKnobs==[]))=true:=by kernel_rfl
theorem flowNodes_k9:((Rows.flowNodesRow.inPlace==Tryz.prog.inPlace 6))=true:=by kernel_rfl
theorem flowNodes_k10:((Rows.flowNodesRow.unfollowed==Tryz.prog.unfollowed 6))=true:=by kernel_rfl
theorem flowNodes_k11:((Rows.flowNodesRow.recurses==Tryz.prog.recurses 6))=true:=by kernel_rfl
theorem flowNodes_k12:((Rows.flowNodesRow.named==Tryz.prog.varsNamed 6))=true:=by kernel_rfl
theorem flowNodes_k13:((Rows.flowNodesRow.maps==(Tryz.f6.params.toList++Rows.flowNodesSpec.plain.varTypes Tryz.prog).any (Tryz.prog.mapsRec ·)))=true:=by kernel_rfl
theorem flowNodes_k14:((Rows.flowNodesRow.ifaces==(Tryz.f6.params.toList++Rows.flowNodesSpec.plain.varTypes Tryz.prog).any (Tryz.prog.ifacesRec ·)))=true:=by kernel_rfl
theorem flowNodes_k15:((Rows.flowNodesRow.mapsOut==Tryz.prog.mapsAmong Tryz.f6.resultTypes.toList))=true:=by kernel_rfl
theorem flowNodes_k16:((Rows.flowNodesRow.loops==(Tryz.f6.params.toList++Rows.flowNodesSpec.plain.varTypes Tryz.prog).any (Tryz.prog.loopsFrom ·)))=true:=by kernel_rfl
theorem flowNodes_k17:((Rows.flowNodesRow.wideKeys==(Tryz.f6.params.toList++Rows.flowNodesSpec.plain.varTypes Tryz.prog++Tryz.f6.resultTypes.toList).any (Tryz.prog.wideKeysFrom ·)))=true:=by kernel_rfl
theorem flowNodes_k18:(Rows.flowNodesSpec.vars.all (Tryz.prog.varReadable ·))=true:=by kernel_rfl
theorem flowNodes_k19:(Tryz.f6.resultTypes.all (fun t=>Tryz.prog.readableRec t&&decide (t<Tryz.prog.types.size)))=true:=by kernel_rfl
theorem flowNodes_k20:((Rows.flowNodesRow.ifacesOut==Tryz.f6.resultTypes.toList.any (Tryz.prog.ifacesRec ·)))=true:=by kernel_rfl
theorem flowNodes_k21:((Rows.flowNodesRow.loopsOut==Tryz.f6.resultTypes.toList.any (Tryz.prog.loopsFrom ·)))=true:=by kernel_rfl
theorem flowNodes_k22:((Rows.flowNodesRow.plainKeys==Tryz.prog.plainKeys))=true:=by kernel_rfl
theorem flowNodes_k23:(Rows.flowNodesRow.shortTexts.isNone)=true:=by kernel_rfl
theorem flowNodes_k24:(Tryz.prog.stopsHeard)=true:=by kernel_rfl
theorem flowNodes_k25:(Tryz.prog.mayEnter)=true:=by kernel_rfl
theorem flowNodes_k26:((Rows.flowNodesRow.lifted==Tryz.prog.liftsFinal))=true:=by kernel_rfl
theorem flowNodes_k27:((Tryz.prog.make==some Rows.flowNodesRow.make))=true:=by kernel_rfl
theorem flowNodes_k28:((Rows.flowNodesRow.kinds==(if Rows.flowNodesRow.domain.isEmpty then [] else Tryz.f6.params.toList.map fun t=>match Tryz.prog.underlying t with|some (.int k)=>some k |_=>none)))=true:=by kernel_rfl
theorem flowNodes_k29:((Rows.flowNodesRow.pinned==Rows.flowNodesRow.pinnedBy))=true:=by kernel_rfl
theorem flowNodes_k30:((Rows.flowNodesRow.veiled==(Tryz.f6.params.toList++Rows.flowNodesSpec.plain.varTypes Tryz.prog++Tryz.f6.resultTypes.toList).any (Tryz.prog.veiledRec ·)))=true:=by kernel_rfl
theorem flowNodes_k31:(Rows.flowNodesRow.veiledFits Tryz.prog Tryz.f6.params.toList (Tryz.f6.params.toList++Rows.flowNodesSpec.plain.varTypes Tryz.prog++Tryz.f6.resultTypes.toList))=true:=by kernel_rfl
theorem flowNodes_kn:Tryz.prog.funcNamed "runnel/runnellaw8.FlowNodes" = some 6:=by kernel_rfl
theorem flowNodes_inst:Tryz.f6.isInstance Tryz.prog Rows.flowNodesRow.origin Rows.flowNodesRow.targs:=of_decide_eq_true (by kernel_rfl)
theorem flowNodes_wrap:Tryz.f6.isWrapper Tryz.prog Rows.flowNodesRow.wrapper Rows.flowNodesRow.mainSum:=by
 unfold Func.isWrapper
 first
  |(rw[if_pos (by decide +kernel)];kernel_rfl)
  |(rw[if_neg (by decide +kernel)];exact⟨rfl,rfl⟩)
end Go.Proofs.YtedkgofehbecmaaGreatDoor
namespace Go.Proofs.YtedkgofehbecmaaGreatDoor
open Go Go.ChangeShapes Go.WideShapes Go.ChangeAt Go.RowKit
set_option maxRecDepth 100000 in
theorem flowNodes_closed:joinedFacts Tryz.prog 6 Tryz.f6 Rows.flowNodesSpec Rows.flowNodesRow=true:=(flowNodes_and (flowNodes_and (flowNodes_and (flowNodes_and (flowNodes_and (flowNodes_and (flowNodes_and (flowNodes_and (flowNodes_and (flowNodes_and (flowNodes_and (flowNodes_and (flowNodes_and (flowNodes_and (flowNodes_and (flowNodes_and (flowNodes_and (flowNodes_and (flowNodes_and (flowNodes_and (flowNodes_and (flowNodes_and (flowNodes_and (flowNodes_and (flowNodes_and (flowNodes_and (flowNodes_and (flowNodes_and (flowNodes_and (flowNodes_and (flowNodes_and flowNodes_k0 flowNodes_k1) flowNodes_k2) flowNodes_k3) flowNodes_k4) flowNodes_k5) flowNodes_k6) flowNodes_k7) flowNodes_k8) flowNodes_k9) flowNodes_k10) flowNodes_k11) flowNodes_k12) flowNodes_k13) flowNodes_k14) flowNodes_k15) flowNodes_k16) flowNodes_k17) flowNodes_k18) flowNodes_k19) flowNodes_k20) flowNodes_k21) flowNodes_k22) flowNodes_k23) flowNodes_k24) flowNodes_k25) flowNodes_k26) flowNodes_k27) flowNodes_k28) flowNodes_k29) flowNodes_k30) flowNodes_k31)
set_option maxRecDepth 100000 in
set_option maxHeartbeats 4000000 in
theorem flowNodes_row:Rows.FlowNodesSaid:=
 OpenClaim.holds_of_wide 6 Tryz.f6 rfl rfl rfl rfl rfl rfl rfl ⟨rfl,rfl,rfl,rfl,rfl⟩ rfl rfl rfl rfl rfl flowNodes_kn Tryz.func6 flowNodes_closed flowNodes_inst flowNodes_wrap
  (fun os started H enc _=>flowNodes_lifted os started H enc)
end Go.Proofs.YtedkgofehbecmaaGreatDoor
