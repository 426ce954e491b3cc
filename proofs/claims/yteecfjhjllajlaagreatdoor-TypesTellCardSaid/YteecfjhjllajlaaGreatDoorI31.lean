/- PROVED: Cn. No more condition. -/
import Derived.Test.YteecfjhjllajlaaGreatDoorI29
import Derived.Test.YteecfjhjllajlaaGreatDoorI28
namespace Go.Proofs.YteecfjhjllajlaaGreatDoor
section
open Go Go.RowKit
open Tr (Snd Sd rgB sndB_true dpt dpt_yes dpL shB StU expB stmB allB kidB)
noncomputable def eff (l:List Tr.Nd)(r:Int):List Tr.Nd:=if rgB l r then l else []
theorem eff_yes {l:List Tr.Nd}{r:Int}(h:rgB l r=true):eff l r=l:=by unfold eff;rw[h];rfl
theorem eff_no {l:List Tr.Nd}{r:Int}(h:rgB l r=false):eff l r=[]:=by unfold eff;rw[h];rfl
theorem rg_parts {l:List Tr.Nd}{r:Int}(h:rgB l r=true):Snd l r∧(ndA l ((l.length-1:Nat):Int)).kd=1∧shB l=true:=by
 unfold rgB at h
 simp only[Bool.and_eq_true,decide_eq_true_eq]at h
 refine⟨?_,by unfold ndA;rw[Int.toNat_natCast];exact h.2.2.1,h.2.2.2⟩
 have h1:=h.1
 by_cases h2:Snd l r
 ·exact h2
 ·rw[Tr.sndB_false h2]at h1;cases h1
theorem rtn_of {l:List Tr.Nd}{r:Int}(h:rgB l r=true):(∃b,RtN l b)∧l.length≤4000∧r=(l.length:Int)-1:=by
 obtain⟨⟨b,h1,h2,h3,h4,h5⟩,h6,h7⟩:=rg_parts h
 exact⟨⟨b,h4,h5,h1,h7,h6⟩,h2,h3⟩
structure NdF (l:List Tr.Nd) (p:Nat):Prop where
 one:(ndA l p).kd=7∨(ndA l p).kd=11∨(ndA l p).kd=12∨(ndA l p).kd=13∨(ndA l p).kd=15→∃k ks,(ndA l p).ks=k :: ks
 two:(ndA l p).kd=10→∃k k' ks,(ndA l p).ks=k :: k' :: ks
 own:(ndA l p).kd=14→∃m:Nat,owA l p=(m:Int)∧m<l.length
theorem RtN.ndf {l:List Tr.Nd}{b:Nat→Nat}(h:RtN l b){p:Nat}(hp:p<l.length):NdF l p:=by
 have hk:=(nd_ok h.sh hp).kid
 have hl:(kdsA l p).length=(ndA l p).ks.length:=by unfold kdsA;rw[List.length_map]
 have h1:1≤(ndA l p).ks.length→∃k ks,(ndA l p).ks=k :: ks:=λh=>by
  match e:(ndA l p).ks,h with
  |k :: ks,_=>exact⟨k,ks,rfl⟩
 refine⟨λhd=>h1 ?_,λhd =>?_,λhd =>?_⟩
 ·rw[← hl]
  rcases hd with e |e |e |e |e<;>rw[e]at hk<;>simp[kidB]at hk<;>omega
 ·have h2:(ndA l p).ks.length=2:=by
   rw[← hl];rw[hd]at hk;simp[kidB]at hk;omega
  match e:(ndA l p).ks,h2 with
  | [k,k'],_=>exact⟨k,k',[],rfl⟩
 ·obtain⟨m,h3,_,h4,_⟩:=h.owns hp (by omega)
  exact⟨m,h3,h4⟩
noncomputable def chkT (l:List Tr.Nd)(r:Int):Int × Int:=if rgB l r then chkA l r else (0,1)
def ty1:List UInt8:=[112,114,111,99,32,109,97,105,110,40,41,32,123,32,118,97,114,32,120,32,105,110,116,59,32,120,32,61,32,116,114,117,101,59,32,125]
def ty2:List UInt8:=[112,114,111,99,32,102,40,41,32,123,32,125]
def ty3:List UInt8:=[112,114,111,99,32,109,97,105,110,40,41,32,123,32,121,32,61,32,49,59,32,125]
def tt1:List Tk.Tok:=[⟨4,0,0,[112,114,111,99]⟩,⟨1,0,5,[109,97,105,110]⟩,⟨3,0,9,[40]⟩,⟨3,0,10,[41]⟩,⟨3,0,12,[123]⟩,⟨4,0,14,[118,97,114]⟩,⟨1,0,18,[120]⟩,⟨4,0,20,[105,110,116]⟩,⟨3,0,23,[59]⟩,⟨1,0,25,[120]⟩,⟨3,0,27,[61]⟩,⟨4,0,29,[116,114,117,101]⟩,⟨3,0,33,[59]⟩,⟨3,0,35,[125]⟩,⟨5,0,36,[]⟩]
def tt2:List Tk.Tok:=[⟨4,0,0,[112,114,111,99]⟩,⟨1,0,5,[102]⟩,⟨3,0,6,[40]⟩,⟨3,0,7,[41]⟩,⟨3,0,9,[123]⟩,⟨3,0,11,[125]⟩,⟨5,0,12,[]⟩]
def tt3:List Tk.Tok:=[⟨4,0,0,[112,114,111,99]⟩,⟨1,0,5,[109,97,105,110]⟩,⟨3,0,9,[40]⟩,⟨3,0,10,[41]⟩,⟨3,0,12,[123]⟩,⟨1,0,14,[121]⟩,⟨3,0,16,[61]⟩,⟨2,1,18,[49]⟩,⟨3,0,19,[59]⟩,⟨3,0,21,[125]⟩,⟨5,0,22,[]⟩]
def tn1:List Nd:=[⟨5,1,14,[120],[]⟩,⟨21,1,29,[],[]⟩,⟨7,0,25,[120],[1]⟩,⟨6,0,12,[],[2]⟩,⟨3,0,0,[109,97,105,110],[0,3]⟩,⟨1,0,0,[],[4]⟩]
def tn2:List Nd:=[⟨6,0,9,[],[]⟩,⟨3,0,0,[102],[0]⟩,⟨1,0,0,[],[1]⟩]
def tn3:List Nd:=[⟨20,1,18,[],[]⟩,⟨7,0,14,[121],[0]⟩,⟨6,0,12,[],[1]⟩,⟨3,0,0,[109,97,105,110],[2]⟩,⟨1,0,0,[],[3]⟩]
theorem rg_dep {l:List Tr.Nd}{r:Int}(h:rgB l r=true):dpt l r≤40:=by
 unfold rgB at h
 simp only[Bool.and_eq_true,decide_eq_true_eq]at h
 exact h.2.1
theorem tans {R:List Tok→Rs}{l:List UInt8}{ts:List Tk.Tok}{nd:List Nd}(h1:Tk.cutR l 0 = .ok ts)(h2:(match R (ts.map cvT) with| .ok _ s=>decide (s.nd=nd) |_=>false)=true)(h3:nd.length≤4000)(h4:dpt (nd.map cvN) ((nd.length:Int)-1)≤40):∃k,ansOf R l = .good nd k:=by
 cases e:R (ts.map cvT) with
 |ok v s=>
  rw[e]at h2
  have h5:s.nd=nd:=of_decide_eq_true h2
  rw[ansOf_ok h1 e,h5,if_neg (by omega),if_neg (by omega)]
  exact⟨_,rfl⟩
 |out=>rw[e]at h2;cases h2
 |no p q=>rw[e]at h2;cases h2
theorem tcut1:Tk.cutR ty1 0 = .ok tt1:=by decide +kernel
theorem tpar1:(match progR (tt1.map cvT) with| .ok _ s=>decide (s.nd=tn1) |_=>false)=true:=by decide +kernel
theorem tsnd1:Snd (tn1.map cvN) 5:=⟨λp=>([0,1,1,1,0,0]:List Nat).getD p 0,by decide,by decide,by decide,by
 intro p hp
 have hp':p<6:=hp
 revert p
 decide +kernel,by decide⟩
theorem trg1:rgB (tn1.map cvN) 5=true:=by
 unfold rgB
 rw[sndB_true tsnd1,dpt_yes tsnd1]
 decide +kernel
theorem tans1:∃k,ansOf progR ty1 = .good tn1 k:=tans tcut1 tpar1 (by decide) (rg_dep trg1)
theorem tchk1:chkT (tn1.map cvN) 5=(2,5):=by
 unfold chkT
 rw[trg1]
 rw[if_pos rfl]
 decide +kernel
theorem tcut2:Tk.cutR ty2 0 = .ok tt2:=by decide +kernel
theorem tpar2:(match progR (tt2.map cvT) with| .ok _ s=>decide (s.nd=tn2) |_=>false)=true:=by decide +kernel
theorem tsnd2:Snd (tn2.map cvN) 2:=⟨λp=>([0,0,0]:List Nat).getD p 0,by decide,by decide,by decide,by
 intro p hp
 have hp':p<3:=hp
 revert p
 decide +kernel,by decide⟩
theorem trg2:rgB (tn2.map cvN) 2=true:=by
 unfold rgB
 rw[sndB_true tsnd2,dpt_yes tsnd2]
 decide +kernel
theorem tans2:∃k,ansOf progR ty2 = .good tn2 k:=tans tcut2 tpar2 (by decide) (rg_dep trg2)
theorem tchk2:chkT (tn2.map cvN) 2=(2,11):=by
 unfold chkT
 rw[trg2]
 rw[if_pos rfl]
 decide +kernel
theorem tcut3:Tk.cutR ty3 0 = .ok tt3:=by decide +kernel
theorem tpar3:(match progR (tt3.map cvT) with| .ok _ s=>decide (s.nd=tn3) |_=>false)=true:=by decide +kernel
theorem tsnd3:Snd (tn3.map cvN) 4:=⟨λp=>([0,0,0,0,0]:List Nat).getD p 0,by decide,by decide,by decide,by
 intro p hp
 have hp':p<5:=hp
 revert p
 decide +kernel,by decide⟩
theorem trg3:rgB (tn3.map cvN) 4=true:=by
 unfold rgB
 rw[sndB_true tsnd3,dpt_yes tsnd3]
 decide +kernel
theorem tans3:∃k,ansOf progR ty3 = .good tn3 k:=tans tcut3 tpar3 (by decide) (rg_dep trg3)
theorem tchk3:chkT (tn3.map cvN) 4=(1,3):=by
 unfold chkT
 rw[trg3]
 rw[if_pos rfl]
 decide +kernel
end
end Go.Proofs.YteecfjhjllajlaaGreatDoor
