/- PROVED here: parts N32 of the claim. No condition but those in each theorem's own head. -/
import Derived.Test.YtedkgofehbecmaaGreatDoorU24
import Derived.Test.YtedkgofehbecmaaGreatDoorU09
import Derived.Test.YtedkgofehbecmaaGreatDoorU29
namespace Go.Proofs.YtedkgofehbecmaaGreatDoor
open Go Go.RowKit
open Tr (Snd Sd rgB sndB_true dpt dpt_yes dpL shB StU expB stmB allB kidB)
noncomputable def eff (l:List Tr.Nd)(r:Int):List Tr.Nd:=if rgB l r then l else []
theorem eff_yes {l:List Tr.Nd}{r:Int}(h:rgB l r=true):eff l r=l:=by unfold eff;rw[h];rfl
theorem eff_no {l:List Tr.Nd}{r:Int}(h:rgB l r=false):eff l r=[]:=by unfold eff;rw[h];rfl
theorem rg_parts {l:List Tr.Nd}{r:Int}(h:rgB l r=true):Snd l r/\(ndA l ((l.length-1:Nat):Int)).kd=1/\shB l=true:=by
 unfold rgB at h
 simp only[Bool.and_eq_true,decide_eq_true_eq]at h
 refine⟨?_,by unfold ndA;rw[Int.toNat_natCast];exact h.2.2.1,h.2.2.2⟩
 have h1:=h.1
 by_cases h2:Snd l r
 ·exact h2
 ·rw[Tr.sndB_false h2]at h1;cases h1
theorem rtn_of {l:List Tr.Nd}{r:Int}(h:rgB l r=true):(∃b,RtN l b)/\l.length<=4000/\r=(l.length:Int)-1:=by
 obtain⟨⟨b,h1,h2,h3,h4,h5⟩,h6,h7⟩:=rg_parts h
 exact⟨⟨b,h4,h5,h1,h7,h6⟩,h2,h3⟩
structure NdF (l:List Tr.Nd) (p:Nat):Prop where
 one:(ndA l p).kd=7\/(ndA l p).kd=11\/(ndA l p).kd=12\/(ndA l p).kd=13\/(ndA l p).kd=15->∃k ks,(ndA l p).ks=k :: ks
 two:(ndA l p).kd=10->∃k k' ks,(ndA l p).ks=k :: k' :: ks
 own:(ndA l p).kd=14->∃m:Nat,owA l p=(m:Int)/\m<l.length
theorem RtN.ndf {l:List Tr.Nd}{b:Nat->Nat}(h:RtN l b){p:Nat}(hp:p<l.length):NdF l p:=by
 have hk:=(nd_ok h.sh hp).kid
 have hl:(kdsA l p).length=(ndA l p).ks.length:=by unfold kdsA;rw[List.length_map]
 have h1:1<=(ndA l p).ks.length->∃k ks,(ndA l p).ks=k :: ks:=λh=>by
  match e:(ndA l p).ks,h with
  |k :: ks,_=>exact⟨k,ks,rfl⟩
 refine⟨λhd=>h1 ?_,λhd =>?_,λhd =>?_⟩
 ·rw[<- hl]
  rcases hd with e |e |e |e |e<;>rw[e]at hk<;>simp[kidB]at hk<;>omega
 ·have h2:(ndA l p).ks.length=2:=by
   rw[<- hl];rw[hd]at hk;simp[kidB]at hk;omega
  match e:(ndA l p).ks,h2 with
  | [k,k'],_=>exact⟨k,k',[],rfl⟩
 ·obtain⟨m,h3,_,h4,_⟩:=h.owns hp (by omega)
  exact⟨m,h3,h4⟩
noncomputable def chkT (l:List Tr.Nd)(r:Int):Int × Int:=if rgB l r then chkA l r else (0,1)
theorem rg_dep {l:List Tr.Nd}{r:Int}(h:rgB l r=true):dpt l r<=40:=by
 unfold rgB at h
 simp only[Bool.and_eq_true,decide_eq_true_eq]at h
 exact h.2.1
theorem tans {R:List Tok->Rs}{l:List UInt8}{ts:List Tk.Tok}{nd:List Nd}(h1:Tk.cutR l 0 = .ok ts)(h2:(match R (ts.map cvT) with| .ok _ s=>decide (s.nd=nd) |_=>false)=true)(h3:nd.length<=4000)(h4:dpt (nd.map cvN) ((nd.length:Int)-1)<=40):∃k,ansOf R l = .good nd k:=by
 cases e:R (ts.map cvT) with
 |ok v s=>
  rw[e]at h2
  have h5:s.nd=nd:=of_decide_eq_true h2
  rw[ansOf_ok h1 e,h5,if_neg (by omega),if_neg (by omega)]
  exact⟨_,rfl⟩
 |out=>rw[e]at h2;cases h2
 |no p q=>rw[e]at h2;cases h2
end Go.Proofs.YtedkgofehbecmaaGreatDoor
