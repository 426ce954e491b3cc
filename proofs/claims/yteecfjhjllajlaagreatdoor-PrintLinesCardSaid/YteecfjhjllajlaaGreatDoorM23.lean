/- PROVED here: parts Yd of the claim. No condition but those in each theorem's own head. -/
import Derived.Test.YteecfjhjllajlaaGreatDoorM18
import Derived.Test.YteecfjhjllajlaaGreatDoorM22
namespace Go.Proofs.YteecfjhjllajlaaGreatDoor
section
section
open Go Go.RowKit
open Tr (nth stmB expB allB kidB ndB shB txB numB mvN ovA ovL rts rtF dpt Snd sndB deepT over_sound rgB)
def leafN:Tr.Nd:=⟨22,0,0,⟨#[120]⟩,[]⟩
theorem ovA_leaves:∀m,ovA (List.replicate m ([leafN],0))=List.replicate m leafN
 |0=>rfl
 |m+1=>by rw[List.replicate_succ',Tr.ovA_snoc,ovA_leaves m,List.replicate_succ' (n:=m) (a:=leafN)];rfl
theorem rts_leaves (m:Nat)(hm:m≤3000):rts (List.replicate m ([leafN],0))=(List.range m).map fun j:Nat=>(j:Int):=by
 unfold rts
 rw[List.length_replicate]
 refine List.map_congr_left fun j hj =>?_
 rw[List.mem_range]at hj
 unfold rtF
 rw[List.take_replicate,ovA_leaves,List.length_replicate,Nat.min_eq_left (by omega)]
 rw[List.getD_eq_getElem?_getD,List.getElem?_replicate,if_pos hj]
 show wrap64 ((j:Int)+0)=j
 rw[Tr.wrap_small (by omega) (by omega)]
 omega
theorem base_eq (kd n pl:Int)(tx:ByteArray)(m:Nat)(hm:m≤3000):ovL kd n pl tx (List.replicate m ([leafN],0))=List.replicate m leafN++[⟨kd,n,pl,tx,(List.range m).map fun j:Nat=>(j:Int)⟩]:=by
 unfold ovL;rw[ovA_leaves,rts_leaves m hm]
theorem leaf_sound:Snd [leafN] 0∧dpt [leafN] 0=1:=by
 have:=over_sound (kd:=22) (n:=0) (pl:=0) (tx:=⟨#[120]⟩) (ts:=[]) (fun t ht=>by cases ht) (Nat.zero_le _) (by decide)
 exact this
theorem deep_le {D:Nat}:∀(ts:List Tr.Tr) (a:Nat),a≤D→(∀t ∈ ts,dpt t.1 t.2≤D)→ts.foldl (fun a t=>max a (dpt t.1 t.2)) a≤D
 | [],_,h,_=>h
 |t :: ts,a,h,hk=>by
  rw[List.foldl_cons]
  exact deep_le ts _ (Nat.max_le.2 ⟨h,hk t List.mem_cons_self⟩) fun x hx=>hk x (List.mem_cons_of_mem _ hx)
theorem base_sound (kd n pl:Int)(tx:ByteArray)(m:Nat)(hm:m≤3000):Snd (ovL kd n pl tx (List.replicate m ([leafN],0))) (m:Int)∧dpt (ovL kd n pl tx (List.replicate m ([leafN],0))) (m:Int)≤2:=by
 have h1:=over_sound (kd:=kd) (n:=n) (pl:=pl) (tx:=tx) (ts:=List.replicate m ([leafN],0)) (fun t ht=>by rw[(List.mem_replicate.1 ht).2];exact leaf_sound.1) (by rw[ovA_leaves,List.length_replicate];omega) (by rw[base_eq _ _ _ _ m hm];simp only[List.length_append,List.length_replicate,List.length_cons,List.length_nil];omega)
 rw[ovA_leaves,List.length_replicate]at h1
 refine⟨h1.1,?_⟩
 rw[h1.2]
 refine Nat.succ_le_succ (deep_le _ _ (Nat.zero_le _) fun t ht =>?_)
 rw[(List.mem_replicate.1 ht).2]
 exact Nat.le_of_eq leaf_sound.2
theorem snd_ahead {l:List Tr.Nd}{r:Int}(h:Snd l r):Ahead l:=by
 obtain⟨b,_,_,_,hS,_⟩:=h
 exact ahead_of hS fun q hq=>hS.le q hq
theorem snd_len {l:List Tr.Nd}{r:Int}(h:Snd l r):1≤l.length∧l.length≤4000∧r=(l.length:Int)-1:=by
 obtain⟨b,h1,h2,h3,_,_⟩:=h
 exact⟨h1,h2,h3⟩
theorem mv_0 {x:Tr.Nd}(h:∀k ∈ x.ks,0≤k∧k≤4000):mvN 0 x=x:=by
 have:(x.ks.map fun k=>wrap64 (k+0))=x.ks:=by
  conv=>rhs;rw[← List.map_id x.ks]
  refine List.map_congr_left fun k hk =>?_
  have:=h k hk
  show wrap64 (k+0)=k
  rw[Tr.wrap_small (by omega) (by omega)]
  omega
 unfold mvN
 rw[this]
theorem mvs_0 {l:List Tr.Nd}{r:Int}(h:Snd l r):l.map (mvN 0)=l:=by
 conv=>rhs;rw[← List.map_id l]
 refine List.map_congr_left fun x hx =>?_
 refine mv_0 fun k hk =>?_
 obtain⟨i,hi,rfl⟩:=List.getElem_of_mem hx
 have h1:=snd_ahead h i hi k hk
 have h2:=snd_len h
 omega
theorem up_eq {l:List Tr.Nd}{r:Int}(h:Snd l r)(kd n pl:Int)(tx:ByteArray):ovL kd n pl tx [(l,r)]=l++[⟨kd,n,pl,tx,[r]⟩]∧ovA [(l,r)]=l:=by
 have h1:ovA [(l,r)]=l:=(show ovA [(l,r)]=l.map (mvN 0)from by simp[ovA]).trans (mvs_0 h)
 have h2:=snd_len h
 refine⟨?_,h1⟩
 unfold ovL
 rw[h1]
 have h3:rts [(l,r)]=[r]:=by
  show[wrap64 (0+r)]=[r]
  rw[Tr.wrap_small (by omega) (by omega)]
  congr 1
  omega
 rw[h3]
theorem up_sound {l:List Tr.Nd}{r:Int}(h:Snd l r)(hl:l.length≤3999)(kd n pl:Int)(tx:ByteArray):Snd (l++[⟨kd,n,pl,tx,[r]⟩]) (l.length:Int)∧dpt (l++[⟨kd,n,pl,tx,[r]⟩]) (l.length:Int)=dpt l r+1:=by
 obtain⟨e1,e2⟩:=up_eq h kd n pl tx
 have h1:=over_sound (kd:=kd) (n:=n) (pl:=pl) (tx:=tx) (ts:=[(l,r)]) (fun t ht=>by rw[List.mem_singleton.1 ht];exact h) (by rw[e2];omega) (by rw[e1];simp only[List.length_append,List.length_cons,List.length_nil];omega)
 rw[e1,e2]at h1
 refine⟨h1.1,h1.2.trans ?_⟩
 show max 0 (dpt l r)+1=_
 rw[Nat.max_eq_right (Nat.zero_le _)]
theorem nth_left {l r:List Tr.Nd}{i:Nat}(h:i<l.length):nth (l++r) i=nth l i:=by
 unfold nth;rw[List.getD_eq_getElem?_getD,List.getD_eq_getElem?_getD,List.getElem?_append_left h]
theorem ndB_left {l r:List Tr.Nd}{x:Tr.Nd}(h:∀k ∈ x.ks,k.toNat<l.length):ndB (l++r) x=ndB l x:=by
 unfold ndB
 rw[List.map_congr_left fun k hk=>by rw[nth_left (h k hk)]]
theorem shB_snoc {l:List Tr.Nd}(hA:Ahead l)(x:Tr.Nd):shB (l++[x])=(shB l&&ndB (l++[x]) x):=by
 unfold shB
 rw[List.all_append]
 congr 1
 ·rw[Bool.eq_iff_iff,List.all_eq_true,List.all_eq_true]
  have:∀y ∈ l,ndB (l++[x]) y=ndB l y:=fun y hy=>by
   obtain⟨i,hi,rfl⟩:=List.getElem_of_mem hy
   exact ndB_left fun k hk=>by have:=hA i hi k hk;omega
  exact⟨fun h y hy=>by rw[← this y hy];exact h y hy,fun h y hy=>by rw[this y hy];exact h y hy⟩
 ·simp
def ndK (kd n:Int)(tx:List UInt8)(ks:List Int):Bool:=decide (1≤kd)&&(decide (kd≤27)&&(txB kd tx&&(numB kd n&&kidB kd ks)))
theorem up_sh {l:List Tr.Nd}{r:Int}(h:Snd l r)(kd n pl:Int)(tx:ByteArray):shB (l++[⟨kd,n,pl,tx,[r]⟩])=(shB l&&ndK kd n tx.data.toList [(nth l (l.length-1)).kd]):=by
 rw[shB_snoc (snd_ahead h)]
 congr 1
 have h2:=snd_len h
 have e:r.toNat=l.length-1:=by omega
 unfold ndB ndK
 simp only[List.map_cons,List.map_nil]
 rw[e,nth_left (by omega)]
theorem nth_last (l:List Tr.Nd)(x:Tr.Nd):nth (l++[x]) l.length=x:=by unfold nth;simp[List.getD]
def shX (kd n:Int)(tx:List UInt8)(m:Nat):Bool:=expB kd&&(txB kd tx&&(numB kd n&&kidB kd (List.replicate m 22)))
theorem nd15 (k:Int):ndK 15 0 [] [k]=expB k:=by simp[ndK,txB,numB,kidB,allB]
theorem wr_rg {l:List Tr.Nd}{k0:Nat}(hk:l.length=k0+1)(h:Snd l (k0:Int))(hd:dpt l (k0:Int)≤30)(hl:k0≤3900):rgB (ovL 1 0 0 ⟨#[]⟩ [(ovL 3 0 0 ⟨#[102]⟩ [(ovL 6 0 0 ⟨#[]⟩ [(ovL 15 0 0 ⟨#[]⟩ [(l,(k0:Int))],((k0+1:Nat):Int))],((k0+2:Nat):Int))],((k0+3:Nat):Int))]) ((k0+4:Nat):Int)=(shB l&&expB (nth l k0).kd):=by
 have a1:=up_sound h (by omega) 15 0 0 ⟨#[]⟩
 have b1:=up_sh h 15 0 0 ⟨#[]⟩
 rw[(up_eq h 15 0 0 ⟨#[]⟩).1]
 rw[hk]at a1 b1
 obtain⟨l1,hl1⟩:∃l1,l1=l++[(⟨15,0,0,⟨#[]⟩,[(k0:Int)]⟩:Tr.Nd)]:=⟨_,rfl⟩
 have c1:l1.length=k0+2:=by rw[hl1];simp[hk]
 have d1:(nth l1 (k0+1)).kd=15:=by rw[hl1,← hk,nth_last]
 rw[← hl1]at a1 b1 ⊢
 have a2:=up_sound a1.1 (by omega) 6 0 0 ⟨#[]⟩
 have b2:=up_sh a1.1 6 0 0 ⟨#[]⟩
 rw[(up_eq a1.1 6 0 0 ⟨#[]⟩).1]
 rw[c1]at a2 b2
 obtain⟨l2,hl2⟩:∃l2,l2=l1++[(⟨6,0,0,⟨#[]⟩,[((k0+1:Nat):Int)]⟩:Tr.Nd)]:=⟨_,rfl⟩
 have c2:l2.length=k0+3:=by rw[hl2];simp[c1]
 have d2:(nth l2 (k0+2)).kd=6:=by rw[hl2,← c1,nth_last]
 rw[← hl2]at a2 b2 ⊢
 have a3:=up_sound a2.1 (by omega) 3 0 0 ⟨#[102]⟩
 have b3:=up_sh a2.1 3 0 0 ⟨#[102]⟩
 rw[(up_eq a2.1 3 0 0 ⟨#[102]⟩).1]
 rw[c2]at a3 b3
 obtain⟨l3,hl3⟩:∃l3,l3=l2++[(⟨3,0,0,⟨#[102]⟩,[((k0+2:Nat):Int)]⟩:Tr.Nd)]:=⟨_,rfl⟩
 have c3:l3.length=k0+4:=by rw[hl3];simp[c2]
 have d3:(nth l3 (k0+3)).kd=3:=by rw[hl3,← c2,nth_last]
 rw[← hl3]at a3 b3 ⊢
 have a4:=up_sound a3.1 (by omega) 1 0 0 ⟨#[]⟩
 have b4:=up_sh a3.1 1 0 0 ⟨#[]⟩
 rw[(up_eq a3.1 1 0 0 ⟨#[]⟩).1]
 rw[c3]at a4 b4
 obtain⟨l4,hl4⟩:∃l4,l4=l3++[(⟨1,0,0,⟨#[]⟩,[((k0+3:Nat):Int)]⟩:Tr.Nd)]:=⟨_,rfl⟩
 have c4:l4.length=k0+5:=by rw[hl4];simp[c3]
 have d4:(nth l4 (k0+4)).kd=1:=by rw[hl4,← c3,nth_last]
 rw[← hl4]at a4 b4 ⊢
 unfold rgB
 rw[Tr.sndB_true a4.1,a4.2,a3.2,a2.2,a1.2,c4,show k0+5-1=k0+4 from rfl,d4,b4,b3,b2,b1]
 rw[show k0+4-1=k0+3 from rfl,show k0+3-1=k0+2 from rfl,show k0+2-1=k0+1 from rfl,show k0+1-1=k0 from rfl,d3,d2,d1]
 have e1:ndK 1 0 [] [3]=true:=by decide
 have e2:ndK 3 0 [102] [6]=true:=by decide
 have e3:ndK 6 0 [] [15]=true:=by decide
 have e4:=nd15 (nth l k0).kd
 have e5:decide (dpt l (k0:Int)+1+1+1+1≤40)=true:=decide_eq_true (by omega)
 rw[e5]
 show(true&&(true&&(true&&(((_&&ndK 15 0 [] _)&&ndK 6 0 [] _)&&ndK 3 0 [102] _&&ndK 1 0 [] _))))=_
 rw[e1,e2,e3,e4]
 simp
theorem base_sh (kd n pl:Int)(tx:ByteArray)(m:Nat):shB (List.replicate m leafN++[⟨kd,n,pl,tx,(List.range m).map fun j:Nat=>(j:Int)⟩])=ndK kd n tx.data.toList (List.replicate m 22):=by
 have hg:∀i:Nat,i<m→nth (List.replicate m leafN) i=leafN:=fun i hi=>by unfold nth;rw[List.getD_eq_getElem?_getD,List.getElem?_replicate,if_pos hi];rfl
 have hA:Ahead (List.replicate m leafN):=fun i hi k hk=>by rw[List.getElem_replicate]at hk;cases hk
 rw[shB_snoc hA]
 have h1:shB (List.replicate m leafN)=true:=List.all_eq_true.2 fun x hx=>by
  rw[(List.mem_replicate.1 hx).2]
  show ndB (List.replicate m leafN) ⟨22,0,0,⟨#[120]⟩,[]⟩=true
  unfold ndB
  simp only[List.map_nil]
  decide
 rw[h1,Bool.true_and]
 unfold ndB ndK
 have h2:((List.range m).map fun j:Nat=>(j:Int)).map (fun k=>(nth (List.replicate m leafN++[(⟨kd,n,pl,tx,(List.range m).map fun j:Nat=>(j:Int)⟩:Tr.Nd)]) k.toNat).kd)=List.replicate m 22:=by
  rw[List.map_map,List.eq_replicate_iff]
  refine⟨by simp,fun b hb =>?_⟩
  obtain⟨j,hj,rfl⟩:=List.mem_map.1 hb
  rw[List.mem_range]at hj
  show(nth _ ((j:Int)).toNat).kd=22
  rw[Int.toNat_natCast,nth_left (by simpa using hj),hg j hj]
  rfl
 simp only[h2]
theorem shaped_rg (kd n pl:Int)(tx:ByteArray)(m:Nat)(hm:m≤3000):rgB (ovL 1 0 0 ⟨#[]⟩ [(ovL 3 0 0 ⟨#[102]⟩ [(ovL 6 0 0 ⟨#[]⟩ [(ovL 15 0 0 ⟨#[]⟩ [(ovL kd n pl tx (List.replicate m ([leafN],0)),(m:Int))],((m+1:Nat):Int))],((m+2:Nat):Int))],((m+3:Nat):Int))]) ((m+4:Nat):Int)=shX kd n tx.data.toList m:=by
 have hb:=base_sound kd n pl tx m hm
 have hl:(ovL kd n pl tx (List.replicate m ([leafN],0))).length=m+1:=by rw[base_eq _ _ _ _ m hm];simp
 rw[wr_rg hl hb.1 (by omega) (by omega)]
 rw[base_eq _ _ _ _ m hm,base_sh]
 have:nth (List.replicate m leafN++[(⟨kd,n,pl,tx,(List.range m).map fun j:Nat=>(j:Int)⟩:Tr.Nd)]) m=⟨kd,n,pl,tx,(List.range m).map fun j:Nat=>(j:Int)⟩:=by
  have:=nth_last (List.replicate m leafN) ⟨kd,n,pl,tx,(List.range m).map fun j:Nat=>(j:Int)⟩
  rwa [List.length_replicate]at this
 rw[this]
 unfold ndK shX
 cases he:expB kd
 ·simp
 ·have h1:1≤kd∧kd≤27:=by
   unfold expB at he
   simp only[Bool.and_eq_true,decide_eq_true_eq]at he
   omega
  rw[decide_eq_true h1.1,decide_eq_true h1.2]
  simp
end
section
open Go Go.RowKit
open Tr (nth stmB expB allB kidB ndB shB txB numB sgB mvN ovA ovL rts rtF dpt Snd sndB deepT over_sound rgB)
theorem exp_kinds {k:Int}(h:expB k=true):k=20∨k=21∨k=22∨k=23∨k=24∨k=25∨k=26∨k=27:=by
 unfold expB at h
 simp only[Bool.and_eq_true,decide_eq_true_eq]at h
 omega
theorem kid_exp {kd:Int}{l:List Int}(he:expB kd=true)(h:kidB kd l=true):(∀x ∈ l,expB x=true)∧l.length≤2:=by
 rcases exp_kinds he with e |e |e |e |e |e |e |e<;>rw[e]at h<;>simp[kidB]at h
 ·exact⟨fun x hx=>(by rw[h]at hx;cases hx),by rw[h];decide⟩
 ·exact⟨fun x hx=>(by rw[h]at hx;cases hx),by rw[h];decide⟩
 ·exact⟨fun x hx=>(by rw[h]at hx;cases hx),by rw[h];decide⟩
 ·exact⟨all_exp h.2,by omega⟩
 ·exact⟨fun x hx=>(by rw[h]at hx;cases hx),by rw[h];decide⟩
 ·exact⟨fun x hx=>(by rw[h]at hx;cases hx),by rw[h];decide⟩
 ·exact⟨all_exp h.2,by omega⟩
 ·exact⟨all_exp h.2,by omega⟩
theorem kidB_rep {kd:Int}{l:List Int}(he:expB kd=true)(hl:∀x ∈ l,expB x=true):kidB kd l=kidB kd (List.replicate l.length 22):=by
 have h1:allB l=true:=List.all_eq_true.2 hl
 have h2:allB (List.replicate l.length 22)=true:=List.all_eq_true.2 fun x hx=>by rw[(List.mem_replicate.1 hx).2];decide
 rcases exp_kinds he with e |e |e |e |e |e |e |e<;>rw[e]<;>simp[kidB,h1,h2]
noncomputable def exB (l:List Tr.Nd)(r:Int):Bool:=sndB l r&&(decide (dpt l r≤40)&&l.all fun x=>shX x.kd x.n x.tx.data.toList x.ks.length)
structure ExOk (l:List Tr.Nd) (r:Int):Prop where
 snd:Snd l r
 dep:dpt l r≤40
 exp:∀x ∈ l,expB x.kd=true
 sh:shB l=true
open Classical in
theorem sndB_iff {l:List Tr.Nd}{r:Int}:sndB l r=true↔Snd l r:=by
 unfold sndB;exact decide_eq_true_iff
theorem kds_exp {l:List Tr.Nd}{r:Int}(h:Snd l r)(he:∀x ∈ l,expB x.kd=true){x:Tr.Nd}(hx:x ∈ l):∀k ∈ (x.ks.map fun k=>(nth l k.toNat).kd),expB k=true:=fun k hk=>by
 obtain⟨j,hj,rfl⟩:=List.mem_map.1 hk
 obtain⟨i,hi,rfl⟩:=List.getElem_of_mem hx
 have h1:=snd_ahead h i hi j hj
 have h2:j.toNat<l.length:=by omega
 show expB (nth l j.toNat).kd=true
 rw[Tr.nth_eq h2]
 exact he _ (List.getElem_mem h2)
theorem nd_shX {l:List Tr.Nd}{r:Int}(h:Snd l r)(he:∀x ∈ l,expB x.kd=true){x:Tr.Nd}(hx:x ∈ l):ndB l x=shX x.kd x.n x.tx.data.toList x.ks.length:=by
 have h1:=kidB_rep (he x hx) (kds_exp h he hx)
 have h2:1≤x.kd∧x.kd≤27:=by rcases exp_kinds (he x hx)with e |e |e |e |e |e |e |e<;>rw[e]<;>decide
 unfold ndB shX
 rw[h1,he x hx,decide_eq_true h2.1,decide_eq_true h2.2,List.length_map]
 simp
theorem exB_ok {l:List Tr.Nd}{r:Int}(h:exB l r=true):ExOk l r:=by
 unfold exB at h
 simp only[Bool.and_eq_true,decide_eq_true_eq,List.all_eq_true]at h
 obtain⟨h1,h2,h3⟩:=h
 have hs:=sndB_iff.1 h1
 have he:∀x ∈ l,expB x.kd=true:=fun x hx=>by
  have:=h3 x hx
  unfold shX at this
  simp only[Bool.and_eq_true]at this
  exact this.1
 exact⟨hs,h2,he,List.all_eq_true.2 fun x hx=>by rw[nd_shX hs he hx];exact h3 x hx⟩
theorem ExOk.exB {l:List Tr.Nd}{r:Int}(h:ExOk l r):exB l r=true:=by
 unfold Go.Proofs.YteecfjhjllajlaaGreatDoor.exB
 rw[sndB_iff.2 h.snd,decide_eq_true h.dep,Bool.true_and,Bool.true_and,List.all_eq_true]
 intro x hx
 rw[← nd_shX h.snd h.exp hx]
 exact List.all_eq_true.1 h.sh x hx
theorem exB_mem {l:List Tr.Nd}{r:Int}(h:exB l r=true):∀x ∈ l,shX x.kd x.n x.tx.data.toList x.ks.length=true:=by
 unfold exB at h
 simp only[Bool.and_eq_true,decide_eq_true_eq,List.all_eq_true]at h
 exact h.2.2
noncomputable def exprT (l:List Tr.Nd)(r:Int):List UInt8:=if exB l r then exT l l.length r else []
theorem mv_ks {l:List Tr.Nd}{r:Int}(h:Snd l r){off:Nat}(ho:off≤100000){x:Tr.Nd}(hx:x ∈ l):(mvN (off:Int) x).ks=x.ks.map fun k=>k+(off:Int):=by
 show(x.ks.map fun k=>wrap64 (k+(off:Int)))=_
 refine List.map_congr_left fun k hk =>?_
 obtain⟨i,hi,rfl⟩:=List.getElem_of_mem hx
 have h1:=snd_ahead h i hi k hk
 have h2:=snd_len h
 exact Tr.wrap_small (by omega) (by omega)
theorem mvR_of {l pre post:List Tr.Nd}{r:Int}(h:Snd l r)(ho:pre.length≤100000):MvR l (pre++l.map (mvN (pre.length:Int))++post) pre.length:=by
 have e:∀i:Nat,(hi:i<l.length)→ndA (pre++l.map (mvN (pre.length:Int))++post) ((i+pre.length:Nat):Int)=mvN (pre.length:Int) l[i]:=fun i hi=>by
  unfold ndA
  rw[Int.toNat_natCast]
  unfold nth
  rw[List.getD_eq_getElem?_getD,List.append_assoc,List.getElem?_append_right (by omega),Nat.add_sub_cancel,List.getElem?_append_left (by simpa using hi),List.getElem?_map,List.getElem?_eq_getElem hi]
  rfl
 refine⟨fun i hi =>?_,fun i hi =>?_,fun i hi =>?_,fun i hi =>?_⟩
 ·rw[e i hi,ndA_eq hi];rfl
 ·rw[e i hi,ndA_eq hi];rfl
 ·rw[e i hi,ndA_eq hi];rfl
 ·rw[e i hi,ndA_eq hi];exact mv_ks h ho (List.getElem_mem hi)
theorem ov_two (kd n pl:Int)(tx:ByteArray){la lb:List Tr.Nd}{ra rb:Int}(ha:Snd la ra)(hb:Snd lb rb):ovL kd n pl tx [(la,ra),(lb,rb)]=la.map (mvN 0)++lb.map (mvN (la.length:Int))++[⟨kd,n,pl,tx,[ra,(la.length:Int)+rb]⟩]∧(ovA [(la,ra),(lb,rb)]).length=la.length+lb.length:=by
 have h1:ovA [(la,ra),(lb,rb)]=la.map (mvN 0)++lb.map (mvN (la.length:Int)):=by simp[ovA]
 have h2:=snd_len ha
 have h3:=snd_len hb
 refine⟨?_,by rw[h1];simp⟩
 unfold ovL
 rw[h1]
 have h4:rts [(la,ra),(lb,rb)]=[ra,(la.length:Int)+rb]:=by
  have e1:rtF [(la,ra),(lb,rb)] 0=ra:=by
   show wrap64 (0+ra)=ra
   rw[Tr.wrap_small (by omega) (by omega)];omega
  have e2:rtF [(la,ra),(lb,rb)] 1=(la.length:Int)+rb:=by
   show wrap64 (((ovA [(la,ra)]).length:Int)+rb)=_
   have:ovA [(la,ra)]=la.map (mvN 0):=by simp[ovA]
   rw[this,List.length_map,Tr.wrap_small (by omega) (by omega)]
  show[rtF _ 0,rtF _ 1]=_
  rw[e1,e2]
 rw[h4]
theorem sg_shX {x:List UInt8}(h:sgB x=true):shX 27 0 x 2=true:=by
 unfold shX
 have e1:txB 27 x=true:=by simp only[txB];simpa using h
 rw[e1]
 decide
theorem over_ex {x:ByteArray}{la lb:List Tr.Nd}{ra rb:Int}(ha:ExOk la ra)(hb:ExOk lb rb)(hda:dpt la ra≤38)(hdb:dpt lb rb≤38)(hl:la.length+lb.length+1≤4000)(hx:sgB x.data.toList=true)(hna:ExN la)(hnb:ExN lb) :
  ExOk (ovL 27 0 0 x [(la,ra),(lb,rb)]) ((la.length+lb.length:Nat):Int) ∧
  exT (ovL 27 0 0 x [(la,ra),(lb,rb)]) (la.length+lb.length+1) ((la.length+lb.length:Nat):Int)=opT la (exT la la.length) ra++[32]++x.data.toList++[32]++opT lb (exT lb lb.length) rb:=by
 obtain⟨e1,e2⟩:=ov_two 27 0 0 x ha.snd hb.snd
 have h1:=over_sound (kd:=27) (n:=0) (pl:=0) (tx:=x) (ts:=[(la,ra),(lb,rb)]) (fun t ht=>by
  rcases List.mem_cons.1 ht with rfl |ht
  ·exact ha.snd
  ·rw[List.mem_singleton.1 ht];exact hb.snd) (by rw[e2];omega) (by rw[e1];simp only[List.length_append,List.length_map,List.length_cons,List.length_nil];omega)
 rw[e2]at h1
 have hla:=snd_len ha.snd
 have hlb:=snd_len hb.snd
 have hd:dpt (ovL 27 0 0 x [(la,ra),(lb,rb)]) ((la.length+lb.length:Nat):Int)≤40:=by
  rw[h1.2]
  exact Nat.succ_le_succ (deep_le _ 0 (Nat.zero_le 39) fun t ht=>by
   rcases List.mem_cons.1 ht with rfl |ht
   ·show dpt la ra≤39;omega
   ·rw[List.mem_singleton.1 ht];show dpt lb rb≤39;omega)
 refine⟨exB_ok ?_,?_⟩
 ·unfold exB
  rw[sndB_iff.2 h1.1,decide_eq_true hd,Bool.true_and,Bool.true_and,e1,List.all_append,List.all_append,Bool.and_eq_true,Bool.and_eq_true]
  refine⟨⟨?_,?_⟩,?_⟩
  ·rw[List.all_eq_true]
   intro y hy
   obtain⟨z,hz,rfl⟩:=List.mem_map.1 hy
   have:=exB_mem ha.exB z hz
   show shX z.kd z.n z.tx.data.toList (z.ks.map _).length=true
   rw[List.length_map];exact this
  ·rw[List.all_eq_true]
   intro y hy
   obtain⟨z,hz,rfl⟩:=List.mem_map.1 hy
   have:=exB_mem hb.exB z hz
   show shX z.kd z.n z.tx.data.toList (z.ks.map _).length=true
   rw[List.length_map];exact this
  ·simp only[List.all_cons,List.all_nil,Bool.and_true,List.length_cons,List.length_nil]
   exact sg_shX hx
 ·have hma:MvR la (ovL 27 0 0 x [(la,ra),(lb,rb)]) 0:=by
   rw[e1,List.append_assoc]
   exact mvR_of (pre:=[]) ha.snd (Nat.zero_le _)
  have hmb:MvR lb (ovL 27 0 0 x [(la,ra),(lb,rb)]) la.length:=by
   have:=mvR_of (pre:=la.map (mvN 0)) (post:=[(⟨27,0,0,x,[ra,(la.length:Int)+rb]⟩:Tr.Nd)]) hb.snd (by rw[List.length_map];omega)
   rw[List.length_map]at this
   rw[e1];exact this
  have hroot:ndA (ovL 27 0 0 x [(la,ra),(lb,rb)]) ((la.length+lb.length:Nat):Int)=⟨27,0,0,x,[ra,(la.length:Int)+rb]⟩:=by
   unfold ndA
   rw[Int.toNat_natCast,e1]
   have:=nth_last (la.map (mvN 0)++lb.map (mvN (la.length:Int))) (⟨27,0,0,x,[ra,(la.length:Int)+rb]⟩:Tr.Nd)
   rwa [List.length_append,List.length_map,List.length_map]at this
  rw[exT_succ,hroot]
  obtain⟨pa,rfl⟩:∃pa:Nat,ra=(pa:Int):=⟨ra.toNat,by omega⟩
  obtain⟨pb,rfl⟩:∃pb:Nat,rb=(pb:Int):=⟨rb.toNat,by omega⟩
  have k0:kidA (ovL 27 0 0 x [(la,(pa:Int)),(lb,(pb:Int))]) ((la.length+lb.length:Nat):Int) 0=((pa+0:Nat):Int):=by unfold kidA;rw[hroot];rfl
  have k1:kidA (ovL 27 0 0 x [(la,(pa:Int)),(lb,(pb:Int))]) ((la.length+lb.length:Nat):Int) 1=((pb+la.length:Nat):Int):=by
   unfold kidA;rw[hroot]
   show(la.length:Int)+(pb:Int)=_
   omega
  have t0:txA (ovL 27 0 0 x [(la,(pa:Int)),(lb,(pb:Int))]) ((la.length+lb.length:Nat):Int)=x.data.toList:=by unfold txA;rw[hroot]
  rw[k0,k1,t0,opT_mv hma hna la.length (la.length+lb.length) pa (by omega) (by omega) (by omega),opT_mv hmb hnb lb.length (la.length+lb.length) pb (by omega) (by omega) (by omega)]
  simp
end
section
open Go Go.RowKit
open Tr (nth stmB expB allB kidB ndB shB StU stK kidsAt Snd)
theorem infl {x y:List UInt8}(h:x <:+: y)(a:List UInt8):x <:+: a++y:=h.trans (List.suffix_append a y).isInfix
theorem infr {x y:List UInt8}(h:x <:+: y)(b:List UInt8):x <:+: y++b:=h.trans (List.prefix_append y b).isInfix
theorem inf_flat {α:Type}{f:α→List UInt8}{x:List UInt8}{k:α}{ks:List α}(hk:k ∈ ks)(h:x <:+: f k):x <:+: (ks.map f).flatten:=by
 obtain⟨s,t,rfl⟩:=List.append_of_mem hk
 rw[List.map_append,List.flatten_append,List.map_cons,List.flatten_cons]
 exact infl (infr h _) _
def lnS (l:List Tr.Nd)(F:Nat)(q:Int):List UInt8:=if (ndA l q).kd=11∨(ndA l q).kd=12∨(ndA l q).kd=16 then lnT l F q else lnT l F q++[59,10]
theorem lnT_lnS (l:List Tr.Nd)(F:Nat)(q:Int):lnT l F q <:+: lnS l F q:=by
 unfold lnS;split
 ·exact List.infix_refl _
 ·exact infr (List.infix_refl _) _
theorem stT_succ (l:List Tr.Nd)(F f d:Nat)(p:Int):stT l F (f+1) d p=indT d++lnT l F p ++
  (if (ndA l p).kd=11 then blkT l (stT l F f) d (kidA l p 1) []++(if (ndA l (kidA l p 2)).ks=[] then [] else [32,101,108,115,101]++blkT l (stT l F f) d (kidA l p 2) [])
  else if (ndA l p).kd=12 then blkT l (stT l F f) d (kidA l p 1) []
  else if (ndA l p).kd=16 then blkT l (stT l F f) d (kidA l p 0) []++[32,99,97,116,99,104,32]++txA l p++blkT l (stT l F f) d (kidA l p 1) []
  else [59])++[10]:=rfl
theorem stT_self (l:List Tr.Nd)(F f d:Nat)(p:Int):lnS l F p <:+: stT l F (f+1) d p:=by
 rw[stT_succ]
 unfold lnS
 split
 ·exact infr (infr (infl (List.infix_refl _) _) _) _
 ·rename_i h
  have h1:¬(ndA l p).kd=11:=fun e=>h (Or.inl e)
  have h2:¬(ndA l p).kd=12:=fun e=>h (Or.inr (Or.inl e))
  have h3:¬(ndA l p).kd=16:=fun e=>h (Or.inr (Or.inr e))
  rw[if_neg h1,if_neg h2,if_neg h3]
  simp only[List.append_assoc]
  exact infl (List.infix_refl _) _
theorem blk_kid {l:List Tr.Nd}{st:Nat→Int→List UInt8}{d:Nat}{p k:Int}{locals:List Int}{x:List UInt8}(hk:k ∈ (ndA l p).ks)(h:x <:+: st (d+1) k):x <:+: blkT l st d p locals:=by
 unfold blkT
 exact infr (infr (infl (inf_flat hk h) _) _) _
def InT (l:List Tr.Nd)(F:Nat)(p:Nat)(x:List UInt8):Prop:=
 (stmB (ndA l p).kd=true∧∀f d,p<f→x <:+: stT l F f d p)∨((ndA l p).kd=6∧∀f d locals,p≤f→x <:+: blkT l (stT l F f) d p locals)∨((ndA l p).kd=3∧x <:+: prcT l F p)∨((ndA l p).kd=1∧x <:+: pgmT l F p)
theorem stm_not {l:List Tr.Nd}(h:shB l=true){p:Nat}(hp:p<l.length)(hk:kdsA l p≠[]):(ndA l p).kd=1∨(ndA l p).kd=3∨(ndA l p).kd=6∨stmB (ndA l p).kd=true∨∀x ∈ kdsA l p,expB x=true:=by
 have h1:=nd_ok h hp
 have h2:=h1.kid
 have h3:=h1.lo
 have h4:=h1.hi
 by_cases e1:(ndA l p).kd=1
 ·exact Or.inl e1
 by_cases e3:(ndA l p).kd=3
 ·exact Or.inr (Or.inl e3)
 by_cases e6:(ndA l p).kd=6
 ·exact Or.inr (Or.inr (Or.inl e6))
 by_cases es:stmB (ndA l p).kd=true
 ·exact Or.inr (Or.inr (Or.inr (Or.inl es)))
 refine Or.inr (Or.inr (Or.inr (Or.inr ?_)))
 have es':¬(7≤(ndA l p).kd∧(ndA l p).kd≤17):=fun hh=>es (by unfold stmB;rw[decide_eq_true hh.1,decide_eq_true hh.2];rfl)
 by_cases e23:(ndA l p).kd=23∨(ndA l p).kd=26∨(ndA l p).kd=27
 ·have h5:allB (kdsA l p)=true:=by
   rcases e23 with e |e |e<;>rw[e]at h2<;>simp[kidB]at h2
   ·exact h2.2
   ·exact h2.2
   ·exact h2.2
  exact all_exp h5
 ·exfalso
  have h5:(ndA l p).kd=2∨(ndA l p).kd=4∨(ndA l p).kd=5∨(ndA l p).kd=18∨(ndA l p).kd=19∨(ndA l p).kd=20∨(ndA l p).kd=21∨(ndA l p).kd=22∨(ndA l p).kd=24∨(ndA l p).kd=25:=by omega
  rcases h5 with e |e |e |e |e |e |e |e |e |e<;>rw[e]at h2<;>simp[kidB]at h2<;>exact hk h2
theorem stm_exp {k:Int}(h:stmB k=true):expB k=false:=by
 rcases stm_kinds h with e |e |e |e |e |e |e |e |e |e |e<;>rw[e]<;>decide
theorem exp_down {l:List Tr.Nd}{b:Nat→Nat}(hS:StU l b l.length)(h:shB l=true):∀p:Nat,p<l.length→expB (ndA l p).kd=true→∀q,b p≤q→q≤p→expB (ndA l q).kd=true:=by
 have hA:Ahead l:=ahead_of hS fun q hq=>hS.le q hq
 intro p
 induction p using Nat.strongRecOn with
 |_ p ih=>
  intro hp he q h1 h2
  by_cases e:q=p
  ·rw[e];exact he
  have h3:=hS p hp
  rw[kidsAt_ks hp]at h3
  obtain⟨m,hm,h4,h5,h6⟩:=Tr.stK_in _ p (b p) q (fun q hq=>hS.le q (by omega)) h3 h1 (by omega)
  have hm2:=List.mem_reverse.1 hm
  have h7:expB (ndA l (m:Int)).kd=true:=by
   have hk:=(nd_ok h hp).kid
   have hin:=kds_mem hm2
   rcases exp_kinds he with e |e |e |e |e |e |e |e<;>rw[e]at hk<;>simp[kidB]at hk
   ·rw[hk]at hin;cases hin
   ·rw[hk]at hin;cases hin
   ·rw[hk]at hin;cases hin
   ·exact all_exp hk.2 _ hin
   ·rw[hk]at hin;cases hin
   ·rw[hk]at hin;cases hin
   ·exact all_exp hk.2 _ hin
   ·exact all_exp hk.2 _ hin
  exact ih m h6 (by omega) h7 q h4 h5
theorem line_in {l:List Tr.Nd}{b:Nat→Nat}(hS:StU l b l.length)(h:shB l=true)(hx:ShOk l)(F:Nat)(hF:l.length≤F):∀p:Nat,p<l.length→∀q:Nat,b p≤q→q≤p→stmB (ndA l q).kd=true→InT l F p (lnS l F q):=by
 have hA:Ahead l:=ahead_of hS fun q hq=>hS.le q hq
 intro p
 induction p using Nat.strongRecOn with
 |_ p ih=>
  intro hp q h1 h2 hq
  by_cases e:q=p
  ·subst e
   refine Or.inl ⟨hq,fun f d hf =>?_⟩
   obtain⟨f',rfl⟩:∃f',f=f'+1:=⟨f-1,by omega⟩
   exact stT_self l F f' d q
  have h3:=hS p hp
  rw[kidsAt_ks hp]at h3
  obtain⟨m,hm,h4,h5,h6⟩:=Tr.stK_in _ p (b p) q (fun q hq=>hS.le q (by omega)) h3 h1 (by omega)
  have hm2:=List.mem_reverse.1 hm
  have hI:=ih m h6 (by omega) q h4 h5 hq
  have hne:kdsA l p≠[]:=fun e0=>by have:=kds_mem hm2;rw[e0]at this;cases this
  have hnx:∀k:Nat,(k:Int)=(m:Int)→expB (ndA l k).kd=true→False:=fun k ek hk=>by
   obtain rfl:k=m:=by omega
   have:=exp_down hS h k (by omega) hk q h4 h5
   rw[stm_exp hq]at this
   cases this
  rcases stm_not h hp hne with e |e |e |e |e
  ·
   refine Or.inr (Or.inr (Or.inr ⟨e,?_⟩))
   obtain⟨k2,ek,_,hk⟩:=hx.pg p hp e m hm2
   obtain rfl:m=k2:=by omega
   unfold pgmT
   refine inf_flat hm2 ?_
   rcases hk with hk |hk
   ·rcases hI with⟨hI,_⟩ |⟨hI,_⟩ |⟨hI,_⟩ |⟨hI,_⟩
    ·rw[hk]at hI;cases hI
    ·rw[hk]at hI;cases hI
    ·rw[hk]at hI;cases hI
    ·rw[hk]at hI;cases hI
   ·rw[hk,if_neg (by decide)]
    rcases hI with⟨hI,_⟩ |⟨hI,_⟩ |⟨_,hI⟩ |⟨hI,_⟩
    ·rw[hk]at hI;cases hI
    ·rw[hk]at hI;cases hI
    ·exact hI
    ·rw[hk]at hI;cases hI
  ·
   refine Or.inr (Or.inr (Or.inl ⟨e,?_⟩))
   obtain⟨ks,bl,e1,hb,hbk,hks⟩:=hx.pr p hp e
   have hm3:=hm2
   rw[e1]at hm3
   have hgl:(ndA l p).ks.getLastD 0=(bl:Int):=by rw[e1];simp
   unfold prcT
   rw[hgl]
   rcases List.mem_append.1 hm3 with hm4 |hm4
   ·obtain⟨k2,ek,_,hk⟩:=hks m hm4
    obtain rfl:m=k2:=by omega
    exfalso
    rcases hk with hk |hk<;>rcases hI with⟨hI,_⟩ |⟨hI,_⟩ |⟨hI,_⟩ |⟨hI,_⟩<;>rw[hk]at hI<;>cases hI
   ·have e2:=List.mem_singleton.1 hm4
    obtain rfl:m=bl:=by omega
    rcases hI with⟨hI,_⟩ |⟨_,hI⟩ |⟨hI,_⟩ |⟨hI,_⟩
    ·rw[hbk]at hI;cases hI
    ·exact infr (infl (hI F 0 _ (by omega)) _) _
    ·rw[hbk]at hI;cases hI
    ·rw[hbk]at hI;cases hI
  ·
   refine Or.inr (Or.inl ⟨e,fun f d locals hf =>?_⟩)
   obtain⟨k2,ek,_,hk⟩:=hx.bl p hp e m hm2
   obtain rfl:m=k2:=by omega
   rcases hI with⟨_,hI⟩ |⟨hI,_⟩ |⟨hI,_⟩ |⟨hI,_⟩
   ·exact blk_kid hm2 (hI f (d+1) (by omega))
   ·rw[hI]at hk;cases hk
   ·rw[hI]at hk;cases hk
   ·rw[hI]at hk;cases hk
  ·
   refine Or.inl ⟨e,fun f d hf =>?_⟩
   obtain⟨f',rfl⟩:∃f',f=f'+1:=⟨f-1,by omega⟩
   have hbk:∀k:Nat,(k:Int)=(m:Int)→(ndA l k).kd=6→∀locals,lnS l F q <:+: blkT l (stT l F f') d k locals:=fun k ek hk locals=>by
    obtain rfl:k=m:=by omega
    rcases hI with⟨hI,_⟩ |⟨_,hI⟩ |⟨hI,_⟩ |⟨hI,_⟩
    ·rw[hk]at hI;cases hI
    ·exact hI f' d locals (by omega)
    ·rw[hk]at hI;cases hI
    ·rw[hk]at hI;cases hI
   rw[stT_succ]
   by_cases e11:(ndA l p).kd=11
   ·obtain⟨a,b2,c,e1,hb,hc,h8,h9⟩:=hx.kif p hp e11
    have h10:=(hx.ln p hp e)
    rw[if_pos e11,kidA_1 e1,kidA_2 e1]
    have hm3:=hm2
    rw[e1]at hm3
    simp only[List.mem_cons,List.not_mem_nil,or_false]at hm3
    rcases hm3 with em |em |em
    ·exfalso
     refine hnx a em.symm ?_
     have hk:=(nd_ok h hp).kid
     rw[e11]at hk
     simp[kidB]at hk
     have:kdsA l p=[(ndA l a).kd,(ndA l b2).kd,(ndA l c).kd]:=by unfold kdsA;rw[e1];rfl
     rw[this]at hk
     exact hk.1.1.2
    ·exact infr (infl (infr (hbk b2 em.symm h8 _) _) _) _
    ·have hne2:(ndA l c).ks≠[]:=fun e0=>by
      obtain rfl:c=m:=by omega
      have h11:=hS c (by omega)
      rw[kidsAt_ks (by omega),e0]at h11
      unfold stK at h11
      simp only[List.reverse_nil]at h11
      have h12:b c=c:=by simpa using h11.symm
      obtain rfl:q=c:=by omega
      rw[h9]at hq;cases hq
     rw[if_neg hne2]
     exact infr (infl (infl (infl (hbk c em.symm h9 _) _) _) _) _
   ·rw[if_neg e11]
    by_cases e12:(ndA l p).kd=12
    ·obtain⟨a,b2,e1,hb,h8⟩:=hx.wh p hp e12
     rw[if_pos e12,kidA_1 e1]
     have hm3:=hm2
     rw[e1]at hm3
     simp only[List.mem_cons,List.not_mem_nil,or_false]at hm3
     rcases hm3 with em |em
     ·exfalso
      refine hnx a em.symm ?_
      have hk:=(nd_ok h hp).kid
      rw[e12]at hk
      simp[kidB]at hk
      have:kdsA l p=[(ndA l a).kd,(ndA l b2).kd]:=by unfold kdsA;rw[e1];rfl
      rw[this]at hk
      exact hk.1.2
     ·exact infr (infl (hbk b2 em.symm h8 _) _) _
    ·rw[if_neg e12]
     by_cases e16:(ndA l p).kd=16
     ·obtain⟨a,b2,e1,ha,hb,h8,h9⟩:=hx.tr p hp e16
      rw[if_pos e16,kidA_0 e1,kidA_1 e1]
      have hm3:=hm2
      rw[e1]at hm3
      simp only[List.mem_cons,List.not_mem_nil,or_false]at hm3
      rcases hm3 with em |em
      ·exact infr (infl (infr (infr (infr (hbk a em.symm h8 _) _) _) _) _) _
      ·exact infr (infl (infl (hbk b2 em.symm h9 _) _) _) _
     ·
      exfalso
      have hk:=(nd_ok h hp).kid
      have hin:=kds_mem hm2
      have hI6:stmB (ndA l m).kd=true∨(ndA l m).kd=6∨(ndA l m).kd=3∨(ndA l m).kd=1:=by
       rcases hI with⟨hI,_⟩ |⟨hI,_⟩ |⟨hI,_⟩ |⟨hI,_⟩
       ·exact Or.inl hI
       ·exact Or.inr (Or.inl hI)
       ·exact Or.inr (Or.inr (Or.inl hI))
       ·exact Or.inr (Or.inr (Or.inr hI))
      have hno:∀k:Int,(stmB k=true∨k=6∨k=3∨k=1)→expB k=false∧k≠18∧k≠19:=fun k hk=>by
       rcases hk with hk |hk |hk |hk
       ·exact⟨stm_exp hk,⟨fun e=>(by rw[e]at hk;cases hk),fun e=>(by rw[e]at hk;cases hk)⟩⟩
       ·rw[hk];decide
       ·rw[hk];decide
       ·rw[hk];decide
      obtain⟨n1,n2,n3⟩:=hno _ hI6
      have hxx:∀L:List Int,allB L=true→(ndA l m).kd ∈ L→False:=fun L hL hi=>by
       have:=all_exp hL _ hi
       rw[n1]at this;cases this
      have hlen:=kdsA_len l p
      rcases stm_kinds e with e |e |e |e |e |e |e |e |e |e |e
      ·rw[e]at hk;simp[kidB]at hk;exact hxx _ hk.2 hin
      ·rw[e]at hk;simp[kidB]at hk;exact hxx _ hk.2 hin
      ·rw[e]at hk;simp[kidB]at hk
       obtain⟨k,e1,_,e2⟩:=one_kid hA hp hk.1
       rw[e2]at hk hin
       have:=List.mem_singleton.1 hin
       rw[this]at n2
       exact n2 hk.2
      ·rw[e]at hk;simp[kidB]at hk
       obtain⟨k,j,e1,_,_,e2⟩:=two_kids hA hp hk.1.1
       rw[e2]at hk hin
       simp only[List.mem_cons,List.not_mem_nil,or_false]at hin
       rcases hin with hin |hin
       ·rw[hin]at n2;exact n2 hk.1.2
       ·rw[hin]at n1;have:=hk.2;simp at this;rw[n1]at this;cases this
      ·exact e11 e
      ·exact e12 e
      ·rw[e]at hk;simp[kidB]at hk
       rcases hks:kdsA l p with _ |⟨a,ks⟩
       ·exact hne hks
       ·rw[hks]at hk hin
        rcases List.mem_cons.1 hin with hin |hin
        ·rw[hin]at n3;exact n3 hk.1.2
        ·exact hxx _ hk.2 hin
      ·rw[e]at hk;simp[kidB]at hk;exact hxx _ hk.2 hin
      ·rw[e]at hk;simp[kidB]at hk;exact hxx _ hk.2 hin
      ·exact e16 e
      ·rw[e]at hk;simp[kidB]at hk;exact hxx _ hk.2 hin
  ·exact(hnx m rfl (e _ (kds_mem hm2))).elim
theorem lnT_ne {l:List Tr.Nd}{F:Nat}{q:Int}(h:stmB (ndA l q).kd=true):lnT l F q≠[]:=by
 unfold lnT
 rcases stm_kinds h with e |e |e |e |e |e |e |e |e |e |e<;>rw[e]<;>simp
end
section
open Go Go.RowKit
open Tr (nth stmB expB allB kidB ndB shB txB idB Snd)
theorem itoa_ne (n:Int):Lib.itoa n≠[]:=by
 unfold Lib.itoa
 split
 ·simp
 ·intro e
  have h1:=congrArg List.length e
  rw[Lib.decDigits_length]at h1
  have h2:1≤Lib.nDigits n.toNat:=Lib.nDigits_pos _
  simp at h1
  omega
theorem exT_ne {l:List Tr.Nd}(hs:shB l=true){f p:Nat}(hp:p<l.length)(he:expB (ndA l p).kd=true):exT l (f+1) p≠[]:=by
 have h:=nd_ok hs hp
 rw[exT_succ]
 rcases exp_kinds he with e |e |e |e |e |e |e |e<;>rw[e]
 ·exact itoa_ne _
 ·simp only[reduceIte,Int.reduceEq]
  cases((ndA l p).n==1)<;>decide
 ·simp only[reduceIte,Int.reduceEq]
  have h1:=h.tx
  rw[e]at h1
  intro e0
  rw[e0]at h1
  revert h1;decide
 ·simp
 ·simp
 ·simp
 ·have h1:=h.tx
  rw[e]at h1
  simp only[reduceIte,Int.reduceEq]
  intro e0
  rw[(List.append_eq_nil_iff.1 e0).1]at h1
  revert h1;decide
 ·simp
theorem prcT_ne (l:List Tr.Nd)(F:Nat)(p:Int):prcT l F p≠[]:=by unfold prcT;simp
theorem varT_ne (l:List Tr.Nd)(d:Nat)(p:Int):varT l d p≠[]:=by unfold varT;simp
theorem pgmT_ne {l:List Tr.Nd}{F:Nat}{p:Int}(h:(ndA l p).ks≠[]):pgmT l F p≠[]:=by
 unfold pgmT
 rcases hks:(ndA l p).ks with _ |⟨k,ks⟩
 ·exact absurd hks h
 ·rw[List.map_cons,List.flatten_cons]
  intro e
  have:=(List.append_eq_nil_iff.1 e).1
  split at this
  ·exact varT_ne l 0 k this
  ·exact prcT_ne l F k this
theorem pgmT_nil {l:List Tr.Nd}{F:Nat}{p:Int}(h:(ndA l p).ks=[]):pgmT l F p=[]:=by unfold pgmT;rw[h];rfl
end
end
end Go.Proofs.YteecfjhjllajlaaGreatDoor
