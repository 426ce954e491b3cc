/- PROVED: Cn. No more condition. -/
import Derived.Test.YteecfjhjllajlaaGreatDoorG26
namespace Go.Proofs.YteecfjhjllajlaaGreatDoor
section
open Go Go.RowKit
open Tr (gF Sd fT dF jQ iL iU kw iY aL dA bE ay)
noncomputable def Lr (l:List Tr.Nd)(r:Int):List Tr.Nd:=if fT l r then l else []
theorem z8 {l:List Tr.Nd}{r:Int}(h:fT l r=true):Lr l r=l:=by unfold Lr;rw[h];rfl
theorem EI {l:List Tr.Nd}{r:Int}(h:fT l r=false):Lr l r=[]:=by unfold Lr;rw[h];rfl
theorem lZ {l:List Tr.Nd}{r:Int}(h:fT l r=true):gF l r/\(ae l ((l.length-1:Nat):Int)).kd=1/\kw l=true:=by
 unfold fT at h;simp only[Bool.and_eq_true,decide_eq_true_eq]at h;refine⟨?_,by unfold ae;rw[Int.toNat_natCast];exact h.2.2.1,h.2.2.2⟩;have h1:=h.1;by_cases h2:gF l r
 ·exact h2
 ·rw[Tr.dK h2]at h1;cases h1
theorem p8 {l:List Tr.Nd}{r:Int}(h:fT l r=true):(∃b,jP l b)/\l.length<=4000/\r=(l.length:Int)-1:=by
 obtain⟨⟨b,h1,h2,h3,h4,h5⟩,h6,h7⟩:=lZ h;exact⟨⟨b,h4,h5,h1,h7,h6⟩,h2,h3⟩
structure Mw (l:List Tr.Nd) (p:Nat):Prop where
 one:(ae l p).kd=7\/(ae l p).kd=11\/(ae l p).kd=12\/(ae l p).kd=13\/(ae l p).kd=15->∃k ks,(ae l p).ks=k :: ks
 two:(ae l p).kd=10->∃k k' ks,(ae l p).ks=k :: k' :: ks
 own:(ae l p).kd=14->∃m:Nat,eQ l p=(m:Int)/\m<l.length
theorem jP.ndf {l:List Tr.Nd}{b:Nat->Nat}(h:jP l b){p:Nat}(hp:p<l.length):Mw l p:=by
 have hk:=(dJ h.sh hp).kid;have hl:(eH l p).length=(ae l p).ks.length:=by unfold eH;rw[List.length_map]
 have h1:1<=(ae l p).ks.length->∃k ks,(ae l p).ks=k :: ks:=λh=>by
  match e:(ae l p).ks,h with
  |k :: ks,_=>exact⟨k,ks,rfl⟩
 refine⟨λhd=>h1 ?_,λhd =>?_,λhd =>?_⟩
 ·rw[<- hl];rcases hd with e |e |e |e |e<;>rw[e]at hk<;>simp[ay]at hk<;>omega
 ·have h2:(ae l p).ks.length=2:=by
   rw[<- hl];rw[hd]at hk;simp[ay]at hk;omega
  match e:(ae l p).ks,h2 with
  | [k,k'],_=>exact⟨k,k',[],rfl⟩
 ·obtain⟨m,h3,_,h4,_⟩:=h.owns hp (by omega);exact⟨m,h3,h4⟩
noncomputable def oG (l:List Tr.Nd)(r:Int):Int × Int:=if fT l r then nC l r else (0,1)
def Nc:List UInt8:=[112,114,111,99,32,109,97,105,110,40,41,32,123,32,118,97,114,32,120,32,105,110,116,59,32,120,32,61,32,116,114,117,101,59,32,125]
def Nf:List UInt8:=[112,114,111,99,32,102,40,41,32,123,32,125]
def Ng:List UInt8:=[112,114,111,99,32,109,97,105,110,40,41,32,123,32,121,32,61,32,49,59,32,125]
def Nh:List Tk.Tok:=[⟨4,0,0,[112,114,111,99]⟩,⟨1,0,5,[109,97,105,110]⟩,⟨3,0,9,[40]⟩,⟨3,0,10,[41]⟩,⟨3,0,12,[123]⟩,⟨4,0,14,[118,97,114]⟩,⟨1,0,18,[120]⟩,⟨4,0,20,[105,110,116]⟩,⟨3,0,23,[59]⟩,⟨1,0,25,[120]⟩,⟨3,0,27,[61]⟩,⟨4,0,29,[116,114,117,101]⟩,⟨3,0,33,[59]⟩,⟨3,0,35,[125]⟩,⟨5,0,36,[]⟩]
def Ni:List Tk.Tok:=[⟨4,0,0,[112,114,111,99]⟩,⟨1,0,5,[102]⟩,⟨3,0,6,[40]⟩,⟨3,0,7,[41]⟩,⟨3,0,9,[123]⟩,⟨3,0,11,[125]⟩,⟨5,0,12,[]⟩]
def Nj:List Tk.Tok:=[⟨4,0,0,[112,114,111,99]⟩,⟨1,0,5,[109,97,105,110]⟩,⟨3,0,9,[40]⟩,⟨3,0,10,[41]⟩,⟨3,0,12,[123]⟩,⟨1,0,14,[121]⟩,⟨3,0,16,[61]⟩,⟨2,1,18,[49]⟩,⟨3,0,19,[59]⟩,⟨3,0,21,[125]⟩,⟨5,0,22,[]⟩]
def Ig:List Nd:=[⟨5,1,14,[120],[]⟩,⟨21,1,29,[],[]⟩,⟨7,0,25,[120],[1]⟩,⟨6,0,12,[],[2]⟩,⟨3,0,0,[109,97,105,110],[0,3]⟩,⟨1,0,0,[],[4]⟩]
def Ih:List Nd:=[⟨6,0,9,[],[]⟩,⟨3,0,0,[102],[0]⟩,⟨1,0,0,[],[1]⟩]
def Ii:List Nd:=[⟨20,1,18,[],[]⟩,⟨7,0,14,[121],[0]⟩,⟨6,0,12,[],[1]⟩,⟨3,0,0,[109,97,105,110],[2]⟩,⟨1,0,0,[],[3]⟩]
theorem yX {l:List Tr.Nd}{r:Int}(h:fT l r=true):jQ l r<=40:=by
 unfold fT at h;simp only[Bool.and_eq_true,decide_eq_true_eq]at h;exact h.2.1
theorem JQ {R:List Tok->Rs}{l:List UInt8}{ts:List Tk.Tok}{nd:List Nd}(h1:Tk.jl l 0=.ok ts)(h2:(match R (ts.map zO) with| .ok _ s=>decide (s.nd=nd) |_=>false)=true)(h3:nd.length<=4000)(h4:jQ (nd.map jF) ((nd.length:Int)-1)<=40):∃k,kW R l=.good nd k:=by
 cases e:R (ts.map zO) with
 |ok v s=>
  rw[e]at h2;have h5:s.nd=nd:=of_decide_eq_true h2;rw[EF h1 e,h5,if_neg (by omega),if_neg (by omega)];exact⟨_,rfl⟩
 |out=>rw[e]at h2;cases h2
 |no p q=>rw[e]at h2;cases h2
theorem Ls:Tk.jl Nc 0=.ok Nh:=by decide +kernel
theorem Lt:(match lF (Nh.map zO) with| .ok _ s=>decide (s.nd=Ig) |_=>false)=true:=by decide +kernel
theorem Ij:gF (Ig.map jF) 5:=⟨λp=>([0,1,1,1,0,0]:List Nat).getD p 0,by decide,by decide,by decide,by
 intro p hp
 have hp':p<6:=hp
 revert p
 decide +kernel,by decide⟩
theorem Lu:fT (Ig.map jF) 5=true:=by
 unfold fT;rw[dF Ij,iL Ij];decide +kernel
theorem Lv:∃k,kW lF Nc=.good Ig k:=JQ Ls Lt (by decide) (yX Lu)
theorem Lx:oG (Ig.map jF) 5=(2,5):=by
 unfold oG;rw[Lu];rw[if_pos rfl];decide +kernel
theorem LA:Tk.jl Nf 0=.ok Ni:=by decide +kernel
theorem LB:(match lF (Ni.map zO) with| .ok _ s=>decide (s.nd=Ih) |_=>false)=true:=by decide +kernel
theorem Ik:gF (Ih.map jF) 2:=⟨λp=>([0,0,0]:List Nat).getD p 0,by decide,by decide,by decide,by
 intro p hp
 have hp':p<3:=hp
 revert p
 decide +kernel,by decide⟩
theorem LC:fT (Ih.map jF) 2=true:=by
 unfold fT;rw[dF Ik,iL Ik];decide +kernel
theorem LD:∃k,kW lF Nf=.good Ih k:=JQ LA LB (by decide) (yX LC)
theorem LF:oG (Ih.map jF) 2=(2,11):=by
 unfold oG;rw[LC];rw[if_pos rfl];decide +kernel
theorem LG:Tk.jl Ng 0=.ok Nj:=by decide +kernel
theorem LH:(match lF (Nj.map zO) with| .ok _ s=>decide (s.nd=Ii) |_=>false)=true:=by decide +kernel
theorem Il:gF (Ii.map jF) 4:=⟨λp=>([0,0,0,0,0]:List Nat).getD p 0,by decide,by decide,by decide,by
 intro p hp
 have hp':p<5:=hp
 revert p
 decide +kernel,by decide⟩
theorem LJ:fT (Ii.map jF) 4=true:=by
 unfold fT;rw[dF Il,iL Il];decide +kernel
theorem LK:∃k,kW lF Ng=.good Ii k:=JQ LG LH (by decide) (yX LJ)
theorem LM:oG (Ii.map jF) 4=(1,3):=by
 unfold oG;rw[LJ];rw[if_pos rfl];decide +kernel
end
end Go.Proofs.YteecfjhjllajlaaGreatDoor
