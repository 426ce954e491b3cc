/- PROVED here: parts N24 of the claim. No condition but those in each theorem's own head. -/
import Derived.Test.YtedkgofehbecmaaGreatDoorU18
import Derived.Test.YtedkgofehbecmaaGreatDoorU23
import Derived.Test.YtedkgofehbecmaaGreatDoorU10
import Derived.Test.YtedkgofehbecmaaGreatDoorU05
import Derived.Test.YtedkgofehbecmaaGreatDoorU04
import Derived.Test.YtedkgofehbecmaaGreatDoorU17
import Derived.Test.YtedkgofehbecmaaGreatDoorU16
import Derived.Test.YtedkgofehbecmaaGreatDoorU01
import Derived.WalkKit
import Derived.OpenShut
import Derived.Carry
import Derived.Deep.Strs
import Derived.Deep.Slices
namespace Go.Proofs.YtedkgofehbecmaaGreatDoor
open Go.Lib (hid)
open Go Go.RowKit
open Tr (Bx heap1 bt Nds Ints BPost IPost VPost Snd rgB dpt)
theorem Caps.below {w w':World}{A:Option Addr}{l:List Tr.Nd}(h:Caps w A l)(hN:Nds w A l)(hb:Below w.heap.size w w'):Caps w' A l:=λp bA off K m c hp hA hc hk hm=>by
 obtain⟨b,o,e,hlt,hcell⟩:=hN (by omega)
 obtain⟨K',c',_,_,_,_,h4,_⟩:=hcell p hp
 rw[hA]at e
 injection e with e
 injection e with e1 e2
 subst e1 e2
 have h5:=((hb.cell (p:=⟨bA,off+p*5+4,none⟩) hlt).trans h4).symm.trans hc
 injection h5 with h5
 injection h5 with x1 x2 x3
 subst x1 x2 x3
 exact h p bA off _ _ _ hp hA h4 hk hm
end Go.Proofs.YtedkgofehbecmaaGreatDoor
namespace Go.Proofs.YtedkgofehbecmaaGreatDoor
open Go.Lib (hid)
open Go Go.RowKit
open Tr (Bx heap1 bt Nds Ints BPost IPost VPost Snd rgB dpt)
end Go.Proofs.YtedkgofehbecmaaGreatDoor
namespace Go.Proofs.YtedkgofehbecmaaGreatDoor
open Go.Lib (hid)
open Go Go.RowKit
open Tr (Bx heap1 bt gen_world ret_int ret_bool cell_same)
def AnsIs (a:Ans)(B:Nat)(w:World)(A:Option Addr)(n c:Nat)(r m p er:Int):Prop:=match a with
 | .bad p0 e0=>A=none/\n=0/\c=0/\r=0/\m=0/\p=(p0:Int)/\er=(e0:Int)
 | .good nd nest=>n=nd.length/\r=(nd.length:Int)-1/\m=(nest:Int)/\p=0/\er=0/\NdsB B w A (nd.map cvN)
theorem AnsIs.fr {a:Ans}{B:Nat}{E:Nat->Prop}{w w':World}{A:Option Addr}{n c:Nat}{r m p er:Int}(h:AnsIs a B w A n c r m p er)(k:Fr E w w')(hE:∀b,E b->b<B):AnsIs a B w' A n c r m p er:=by
 unfold AnsIs at *
 cases a with
 |bad p0 e0=>exact h
 |good nd nest=>exact⟨h.1,h.2.1,h.2.2.1,h.2.2.2.1,h.2.2.2.2.1,h.2.2.2.2.2.fr k hE⟩
theorem AnsIs.mono {a:Ans}{B B':Nat}{w:World}{A:Option Addr}{n c:Nat}{r m p er:Int}(h:AnsIs a B w A n c r m p er)(hB:B'<=B):AnsIs a B' w A n c r m p er:=by
 unfold AnsIs at *
 cases a with
 |bad p0 e0=>exact h
 |good nd nest=>exact⟨h.1,h.2.1,h.2.2.1,h.2.2.2.1,h.2.2.2.2.1,h.2.2.2.2.2.mono hB⟩
def ReadG (a:Ans)(w:World)(e:Ending)(w':World):Prop:=∃A n c r m p er,e = .returned (.agg #[.slice A n c,.int .i64 r,.int .i64 m,.int .i64 p,.int .i64 er])/\Below w.heap.size w w'/\AnsIs a w.heap.size w' A n c r m p er
theorem ReadPost.g {a:Ans}{w w':World}{e:Ending}(h:ReadPost a w e w'):ReadG a w e w':=by
 obtain⟨hb,h⟩:=h
 cases a with
 |bad p0 e0=>exact⟨none,0,0,0,0,_,_,h,hb,rfl,rfl,rfl,rfl,rfl,rfl,rfl⟩
 |good nd nest=>
  obtain⟨A,c,he,hN⟩:=h
  exact⟨A,_,c,_,_,_,_,he,hb,rfl,rfl,rfl,rfl,rfl,hN⟩
def TreePost (a:Ans)(w:World)(e:Ending)(w':World):Prop:=∃A n c r m p er,e = .returned (.tuple #[.agg #[.slice A n c,.int .i64 r],.int .i64 p,.int .i64 er])/\Below w.heap.size w w'/\AnsIs a w.heap.size w' A n c r m p er
theorem run_field51_0 (b:Nat)(w:World):(Instr.fieldAt 111 (.pointer (some ⟨b,0,none⟩)) 0).run Tryz.prog w = .ok (.pointer (some ⟨b,0,none⟩)) w:=by kernel_rfl
theorem run_field51_2 (b:Nat)(w:World):(Instr.fieldAt 111 (.pointer (some ⟨b,0,none⟩)) 2).run Tryz.prog w = .ok (.pointer (some ⟨b,3,none⟩)) w:=by kernel_rfl
theorem run_field49_0 (b:Nat)(w:World):(Instr.fieldAt 109 (.pointer (some ⟨b,3,none⟩)) 0).run Tryz.prog w = .ok (.pointer (some ⟨b,3,none⟩)) w:=by kernel_rfl
theorem run_field49_1 (b:Nat)(w:World):(Instr.fieldAt 109 (.pointer (some ⟨b,3,none⟩)) 1).run Tryz.prog w = .ok (.pointer (some ⟨b,4,none⟩)) w:=by kernel_rfl
theorem run_load26 {w:World}{ad:Addr}{n:Int}(h:w.cell? ad=some (.int .i64 n)):(Instr.loadAt 31 (.pointer (some ad))).run Tryz.prog w = .ok (.int .i64 n) w:=by simp[go_sem,h]
theorem run_load25 {w:World}{b:Nat}{n c:Nat}{A:Option Addr}{r:Int}(h0:w.cell? ⟨b,0,none⟩=some (.slice A n c))(h1:w.cell? ⟨b,1,none⟩=some (.int .i64 r)):(Instr.loadAt 24 (.pointer (some ⟨b,0,none⟩))).run Tryz.prog w = .ok (.agg #[.slice A n c,.int .i64 r]) w:=by simp[go_sem,h0,h1]
set_option maxRecDepth 100000 in
set_option maxHeartbeats 1500000 in
theorem program_any (s:ByteArray)(w:World)(hE:Tk.Errs w)(hs:s.size<=20000):Calls Tryz.prog 48 #[.string s] w (TreePost (ansOf progR s.data.toList) w):=by
 have hb0:Below w.heap.size w (w.alloc (.cells #[.slice none 0 0,.int .i64 0] 24)):=heap1 _ _
 have HC:=hid ((read22 s _ (hE.below hb0) hs).mono λ_ _ q=>q.g)
 generalize ansOf progR s.data.toList=a at *
 clear hE hs
 go_enter Tryz.func48,Tryz.ntmps48
 go_wp2_with (go_at_call 84;refine HC.out.mono ?_)
 rintro e w1 ⟨A,n,c,r,m,p,er,rfl,hb1,hA⟩
 obtain⟨W4,hW4⟩:∃W4,w1.alloc (.cells #[.slice A n c,.int .i64 r,.int .i64 m,.int .i64 p,.int .i64 er] 111)=W4:=⟨_,rfl⟩
 have hb4:Below w1.heap.size w1 W4:=by rw[<- hW4];exact heap1 _ _
 have hR4:Bx W4 w1.heap.size 111 [.slice A n c,.int .i64 r,.int .i64 m,.int .i64 p,.int .i64 er]:=by rw[<- hW4];exact Bx.new w1 111 _
 have hT1:=(Bx.new w 24 [.slice none 0 0,.int .i64 0]).below hb1 (Bx.new w 24 _).lt
 have hT4:=hT1.below hb4 hT1.lt
 have hA4:=(hA.mono (B':=w.heap.size+1) (by rw[World.size_alloc];exact Nat.le_refl _)).fr (E:=λ_=>False) (Fr.of hb4) (λ_ q=>q.elim)
 have HX:=hid (And.intro (bt (bt hb0 hb1) hb4) (And.intro hR4 (And.intro hT4 (And.intro hA4 hT1.lt))))
 have HW4:=hid hW4
 clear hb1 hA hb4 hR4 hT1 hT4 hA4 hW4 hb0
 go_upto_region 2 with(fail)
 rw[HW4.out]
 obtain⟨hb4,hR4,hT4,hA4,hlt⟩:=HX.out
 obtain⟨W5,hW5⟩:∃W5:World,{ W4 with drawn:=W4.drawn+1 }=W5:=⟨_,rfl⟩
 have hT5:Bx W5 w.heap.size 24 [.slice none 0 0,.int .i64 0]:=by rw[<- hW5];exact hT4
 have hS:Bx W5 w1.heap.size 111 [.slice A n c,.int .i64 r,.int .i64 m,.int .i64 p,.int .i64 er]/\∃u0 u1,Bx W5 w.heap.size 24 [u0,u1]:=⟨by rw[<- hW5];exact hR4,_,_,hT5⟩
 have hb5:Below w.heap.size w W5:=by rw[<- hW5];exact bdrew hb4
 have hA5:AnsIs a (w.heap.size+1) W5 A n c r m p er:=by rw[<- hW5];exact hA4.fr (E:=λ_=>False) (Fr.of (bdrew (Below.refl _ _))) (λ_ q=>q.elim)
 have hne:w1.heap.size≠w.heap.size:=by omega
 refine wp_region_held (S:=λw'=>Bx w' w1.heap.size 111 [.slice A n c,.int .i64 r,.int .i64 m,.int .i64 p,.int .i64 er]/\∃u0 u1,Bx w' w.heap.size 24 [u0,u1]) (by kernel_rfl) ?_
 rw[hW5]
 clear hW5 hb4 hR4 hT4 hA4 HX HW4 HC
 refine hpu 0 (.pointer (some ⟨w1.heap.size,0,none⟩)) (by kernel_rfl) rfl rfl (λ_ _ _ h=>h) rfl (y_field rfl rfl (run_field51_0 _)) hS ?_
 simp only[ap]
 refine hpu 1 (.agg #[.slice A n c,.int .i64 r]) (by kernel_rfl) rfl rfl (λ_ _ _ h=>h) rfl (y_load rfl rfl (λw' q=>run_load25 ((q.1.cell 0).trans rfl) ((q.1.cell 1).trans rfl))) hS ?_
 simp only[ap]
 refine hpu 2 (.pointer (some ⟨w1.heap.size,3,none⟩)) (by kernel_rfl) rfl rfl (λ_ _ _ h=>h) rfl (y_field rfl rfl (run_field51_2 _)) hS ?_
 simp only[ap]
 refine hpu 3 (.pointer (some ⟨w1.heap.size,3,none⟩)) (by kernel_rfl) rfl rfl (λ_ _ _ h=>h) rfl (y_field rfl rfl (run_field49_0 _)) hS ?_
 simp only[ap]
 refine hpu 4 (.int .i64 p) (by kernel_rfl) rfl rfl (λ_ _ _ h=>h) rfl (y_load rfl rfl (λw' q=>run_load3 ((q.1.cell 3).trans rfl))) hS ?_
 simp only[ap]
 refine hpu 5 (.pointer (some ⟨w1.heap.size,3,none⟩)) (by kernel_rfl) rfl rfl (λ_ _ _ h=>h) rfl (y_field rfl rfl (run_field51_2 _)) hS ?_
 simp only[ap]
 refine hpu 6 (.pointer (some ⟨w1.heap.size,4,none⟩)) (by kernel_rfl) rfl rfl (λ_ _ _ h=>h) rfl (y_field rfl rfl (run_field49_1 _)) hS ?_
 simp only[ap]
 refine hpu 7 (.int .i64 er) (by kernel_rfl) rfl rfl (λ_ _ _ h=>h) rfl (y_load rfl rfl (λw' q=>run_load26 ((q.1.cell 4).trans rfl))) hS ?_
 simp only[ap]
 have hT6:=(hT5.set_ 0 (.slice A n c)).set_ 1 (.int .i64 r)
 simp only[List.set_cons_zero,List.set_cons_succ]at hT6
 have hS6:=(hS.1.far (p:=⟨w.heap.size,0,none⟩) hne (.slice A n c)).far (p:=⟨w.heap.size,1,none⟩) hne (.int .i64 r)
 have hF6:Fr (λb=>b=w.heap.size) W5 ((W5.setCell ⟨w.heap.size,0,none⟩ (.slice A n c)).setCell ⟨w.heap.size,1,none⟩ (.int .i64 r)):=(Fr.set (E:=λb=>b=w.heap.size) (Fr.refl _ _) rfl _).set rfl _
 have hb6:=(hb5.setCell (p:=⟨w.heap.size,0,none⟩) (Nat.le_refl _) (.slice A n c)).setCell (p:=⟨w.heap.size,1,none⟩) (Nat.le_refl _) (.int .i64 r)
 refine h_one 8 ({ dst:=none,op:=Op.store 24 (Operand.tmp 2) (Operand.tmp 9),type:=0,pos := "parse.go:13",after := #[{ on:=1,ground:=Ground.data },{ on:=0,ground:=Ground.phase },{ on:=1,ground:=Ground.phase },{ on:=2,ground:=Ground.textOnly Departure.lateStores },{ on:=3,ground:=Ground.textOnly Departure.lateStores },{ on:=4,ground:=Ground.textOnly Departure.lateStores },{ on:=5,ground:=Ground.textOnly Departure.lateStores },{ on:=6,ground:=Ground.textOnly Departure.lateStores },{ on:=7,ground:=Ground.textOnly Departure.lateStores }],guard:=none }:Oper) rfl (by kernel_rfl) rfl (store25 rfl rfl rfl hT5 ⟨⟨hS6,_,_,hT6⟩,?_⟩)
 simp only[Act.put]
 have hS9:Bx ((W5.setCell ⟨w.heap.size,0,none⟩ (.slice A n c)).setCell ⟨w.heap.size,1,none⟩ (.int .i64 r)) w1.heap.size 111 [.slice A n c,.int .i64 r,.int .i64 m,.int .i64 p,.int .i64 er]/\∃u0 u1,Bx ((W5.setCell ⟨w.heap.size,0,none⟩ (.slice A n c)).setCell ⟨w.heap.size,1,none⟩ (.int .i64 r)) w.heap.size 24 [u0,u1]:=⟨hS6,_,_,hT6⟩
 refine hpu 9 (.int .i64 p) (by kernel_rfl) rfl rfl (λ_ _ _ h=>h) rfl (y_assign rfl rfl) hS9 ?_
 simp only[ap]
 refine hpu 10 (.int .i64 er) (by kernel_rfl) rfl rfl (λ_ _ _ h=>h) rfl (y_assign rfl rfl) hS9 ?_
 simp only[ap]
 refine wpAnyH_done (by kernel_rfl) ?_ _
 have hA6:=(hA5.fr hF6 (λb q=>by omega)).mono (B':=w.heap.size) (by omega)
 have z0:=(hT6.cell 0).trans rfl
 have z1:=(hT6.cell 1).trans rfl
 generalize (W5.setCell ⟨w.heap.size,0,none⟩ (.slice A n c)).setCell ⟨w.heap.size,1,none⟩ (.int .i64 r)=W6 at *
 have HE:=hid (And.intro hb6 hA6)
 clear hb6 hA6 hT6 hS6 hS9 hF6 hS hT5 hA5 hb5 hne hlt
 go_wp2
 exact bodyPost_ret (v :=.tuple #[.agg #[.slice A n c,.int .i64 r],.int .i64 p,.int .i64 er]) (by simp[results,Tryz.f48,go_sem,z0,z1]) rfl ⟨A,n,c,r,m,p,er,rfl,HE.out.1,HE.out.2⟩
end Go.Proofs.YtedkgofehbecmaaGreatDoor
namespace Go.Proofs.YtedkgofehbecmaaGreatDoor
open Go.Lib (hid)
open Go Go.RowKit
open Tr (Bx heap1 bt gen_world ret_int ret_bool cell_same)
theorem ansOf_ok {R:List Tok->Rs}{l:List UInt8}{ts:List Tk.Tok}{v:List Int}{s:St}(h1:Tk.cutR l 0 = .ok ts)(h2:R (ts.map cvT) = .ok v s):ansOf R l=if 4000<s.nd.length then .bad 0 8 else if 40<Tr.dpt (s.nd.map cvN) ((s.nd.length:Int)-1) then .bad 0 6 else .good s.nd s.mo:=by
 unfold ansOf;rw[h1];show(match R (ts.map cvT) with| .out=>Ans.bad 0 0 | .no p e =>.bad p e | .ok _ s=>if 4000<s.nd.length then .bad 0 8 else if 40<Tr.dpt (s.nd.map cvN) ((s.nd.length:Int)-1) then .bad 0 6 else .good s.nd s.mo)=_;rw[h2]
end Go.Proofs.YtedkgofehbecmaaGreatDoor
namespace Go.Proofs.YtedkgofehbecmaaGreatDoor
open Go.Lib (hid)
open Go Go.RowKit
open Tr (Bx heap1 bt gen_world ret_int ret_bool cell_same)
def GPost (nd:List Nd)(w:World)(e:Ending)(w':World):Prop:=∃A c,e = .returned (.tuple #[.agg #[.slice A nd.length c,.int .i64 ((nd.length:Int)-1)],.int .i64 0,.int .i64 0])/\Below w.heap.size w w'/\NdsB w.heap.size w' A (nd.map cvN)
theorem tree_good {a:Ans}{nd:List Nd}{k:Nat}{w:World}{en:Ending}{w':World}(h:TreePost a w en w')(ha:a = .good nd k):GPost nd w en w':=by
 subst ha
 obtain⟨A,n,c,r,m,q,er,rfl,hb,rfl,rfl,rfl,rfl,rfl,hN⟩:=h
 exact⟨A,c,rfl,hb,hN⟩
end Go.Proofs.YtedkgofehbecmaaGreatDoor
namespace Go.Proofs.YtedkgofehbecmaaGreatDoor
open Go.Lib (hid)
open Go Go.RowKit
open Tr (Bx heap1 bt Nds VPost Snd dpt)
theorem y_pickF {S:World->Prop}{a:Act}{o:Oper}{c x y:Operand}{v:Value}(ho:o.op = .pick c x y)(hc:a.eval c = .bool false)(hy:a.eval y=v):∀w,S w->(execOp a.eval o).run Tryz.prog w = .ok (.value v) w:=λw _=>by unfold execOp;simp[ho,hc,hy,asBool]
end Go.Proofs.YtedkgofehbecmaaGreatDoor
namespace Go.Proofs.YtedkgofehbecmaaGreatDoor.Vw
open Go.Lib (hid)
open Go Go.ChangeShapes Go.WideShapes Go.ChangeAt Go.RowKit Go.Deep
theorem cells3:Tryz.prog.cellsOf 3=1:=by kernel_rfl
theorem cells9:Tryz.prog.cellsOf 9=1:=by kernel_rfl
theorem cells35:Tryz.prog.cellsOf 28=1:=by kernel_rfl
theorem cells23:Tryz.prog.cellsOf 22=1:=by kernel_rfl
theorem cells37:Tryz.prog.cellsOf 50=5:=by kernel_rfl
theorem cells25:Tryz.prog.cellsOf 24=2:=by kernel_rfl
theorem fields37:(Tryz.prog.fieldsOf 50).toList.map (λf=>(f.name,f.type,f.offset))=[("Kind",3,0),("N",3,1),("At",3,2),("Text",9,3),("Kids",28,4)]:=by kernel_rfl
theorem fields25:(Tryz.prog.fieldsOf 24).toList.map (λf=>(f.name,f.type,f.offset))=[("Nodes",22,0),("Root",3,1)]:=by kernel_rfl
theorem under37:Tryz.prog.underlying 50=some (.struct (Tryz.prog.fieldsOf 50)):=by kernel_rfl
theorem under25:Tryz.prog.underlying 24=some (.struct (Tryz.prog.fieldsOf 24)):=by kernel_rfl
theorem size37:(Tryz.prog.fieldsOf 50).size=5:=by kernel_rfl
theorem size25:(Tryz.prog.fieldsOf 24).size=2:=by kernel_rfl
theorem pick_lt {α:Type}{P:Nat->α->Prop}{m:Nat}(d:α)(h:∀i,i<m->∃q,P i q):∃Q:Nat->α,∀i,i<m->P i (Q i):=
 ⟨λi=>if hi:i<m then (h i hi).choose else d,λi hi=>by
  show P i (dite (i<m) _ _)
  rw[dif_pos hi]
  exact(h i hi).choose_spec⟩
theorem field_of {T:TypeId}{L:List (String × Nat × Nat)}(hL:(Tryz.prog.fieldsOf T).toList.map (λf=>(f.name,f.type,f.offset))=L){i:Nat}{n:String}{t o:Nat}(h:L[i]?=some (n,t,o)):∃f,(Tryz.prog.fieldsOf T)[i]?=some f/\f.type=t/\f.offset=o:=by
 rw[<- hL,List.getElem?_map]at h
 cases hq:(Tryz.prog.fieldsOf T).toList[i]? with
 |none=>rw[hq]at h;cases h
 |some f=>
  rw[hq]at h
  simp only[Option.map_some,Option.some.injEq,Prod.mk.injEq]at h
  exact⟨f,by rw[<- Array.getElem?_toList];exact hq,h.2.1,h.2.2⟩
theorem add_flat (b off k:Nat):(⟨b,off,none⟩:Addr).add k=⟨b,off+k,none⟩:=by simp[Addr.add]
theorem wf_le {n:Int}(h:(Lit.int .i64 n).wf=true):n<=9223372036854775807:=by
 unfold Lit.wf at h
 simp only[Bool.and_eq_true,decide_eq_true_eq]at h
 have h2:=h.2
 rw[show IntKind.i64.max=9223372036854775807 by rfl]at h2
 exact h2
section
variable {H:Type} {enc:TypeId × Value->H} {W:World}
theorem ints_of {n:Nat}{cs:List Value}{x:DataW H × List MemPlace}(h:DataW.trod enc Tryz.prog W 0 (λ_=>true) true n 28 cs=some x):∃(K:Option Addr) (ks:List Int) (c:Nat),cs=[.slice K ks.length c]/\Tr.Ints W K ks/\ks.length<=c:=by
 rcases open_slice Tryz.underlying28 h with⟨hcs,hx⟩ |⟨a,len,cap,m,n,D,Pl,hcs,_,hl,hm,hmm,hx,hcell⟩
 ·exact⟨none,[],0,hcs,(λh=>by simp at h),by simp⟩
 ·simp only[if_true]at hmm
  subst hmm
  have each:∀i,i<m->∃q:Int,W.cell? (a.add i)=some (.int .i64 q):=λi hi=>by
   obtain⟨cs',h1,h2⟩:=hcell i hi
   rw[cells3]at h1
   obtain⟨_,hlen,hc⟩:=World.cells?_some h1
   obtain⟨q,hq,_,_⟩:=DataW.trod_int Tryz.underlying3 h2
   refine⟨q,?_⟩
   have:=hc 0 (by omega)
   subst hq
   simpa [Addr.add]using this
  obtain⟨Q,hQ⟩:=pick_lt 0 each
  refine⟨some a,(List.range len).map Q,m,by rw[hcs];simp,λh0 =>?_,by simpa using hl⟩
  have h0':0<m:=by simp at h0;omega
  obtain⟨b,off,spot⟩:=a
  have hspot:spot=none:=by
   have:=World.cell?_spot (hQ 0 h0')
   simpa [Addr.add]using this
  subst hspot
  refine⟨b,off,rfl,World.block_lt_of_cell? W _ (by have:=hQ 0 h0';rw[add_flat]at this;exact this),λj hj =>?_⟩
  have hj':j<len:=by simpa using hj
  have:=hQ j (by omega)
  rw[add_flat]at this
  rw[this];simp
set_option maxRecDepth 100000 in
theorem node_ofB {n:Nat}{cs:List Value}{x:DataW H × List MemPlace}(hlen:cs.length=5)(h:DataW.trod enc Tryz.prog W 0 (λ_=>true) true n 50 cs=some x) :
  ∃(q:Tr.Nd) (K:Option Addr) (c:Nat),cs=[.int .i64 q.kd,.int .i64 q.n,.int .i64 q.pl,.string q.tx,.slice K q.ks.length c]/\Tr.Ints W K q.ks/\q.n<=9223372036854775807/\q.ks.length<=c:=by
 obtain⟨d,pl⟩:=x
 obtain⟨xs,k,_,_,_,hxl,hel⟩:=DataW.trod_struct under37 h
 obtain⟨f0,g0,t0,o0⟩:=field_of fields37 (i:=0) rfl
 obtain⟨f1,g1,t1,o1⟩:=field_of fields37 (i:=1) rfl
 obtain⟨f2,g2,t2,o2⟩:=field_of fields37 (i:=2) rfl
 obtain⟨f3,g3,t3,o3⟩:=field_of fields37 (i:=3) rfl
 obtain⟨f4,g4,t4,o4⟩:=field_of fields37 (i:=4) rfl
 rw[size37]at hxl
 match cs,hlen,xs,hxl with
 | [v0,v1,v2,v3,v4],_,[x0,x1,x2,x3,x4],_=>
  have e0:=hel 0 f0 g0
  have e1:=hel 1 f1 g1
  have e2:=hel 2 f2 g2
  have e3:=hel 3 f3 g3
  have e4:=hel 4 f4 g4
  rw[t0,o0,cells3]at e0
  rw[t1,o1,cells3]at e1
  rw[t2,o2,cells3]at e2
  rw[t3,o3,cells9]at e3
  rw[t4,o4,cells35]at e4
  obtain⟨a0,q0,_,_⟩:=DataW.trod_int Tryz.underlying3 e0
  obtain⟨a1,q1,_,hw1⟩:=DataW.trod_int Tryz.underlying3 e1
  obtain⟨a2,q2,_,_⟩:=DataW.trod_int Tryz.underlying3 e2
  obtain⟨s3,q3,_,_⟩:=DataW.trod_string Tryz.underlying9 e3
  obtain⟨K,ks,c,q4,hI,hKc⟩:=ints_of e4
  simp at q0 q1 q2 q3 q4
  exact⟨(⟨a0,a1,a2,s3,ks⟩:Tr.Nd),K,c,by rw[q0,q1,q2,q3,q4],hI,wf_le hw1,hKc⟩
set_option maxRecDepth 100000 in
theorem nodes_ofB {n:Nat}{cs:List Value}{x:DataW H × List MemPlace}(h:DataW.trod enc Tryz.prog W 0 (λ_=>true) true n 22 cs=some x):∃(A:Option Addr) (l:List Tr.Nd) (c:Nat),cs=[.slice A l.length c]/\Tr.Nds W A l/\l.length<=c/\(∀x ∈ l,x.n<=9223372036854775807)/\Caps W A l:=by
 rcases open_slice Tryz.underlying22 h with⟨hcs,hx⟩ |⟨a,len,cap,m,n,D,Pl,hcs,_,hl,hm,hmm,hx,hcell⟩
 ·exact⟨none,[],0,hcs,λh=>by simp at h,by simp,(λx hx=>by cases hx),λp bA off K m c hp=>absurd hp (Nat.not_lt_zero _)⟩
 ·simp only[if_true]at hmm
  subst hmm
  have each:∀i,i<m->∃q:Tr.Nd,∃K c,(W.cell? ((a.add (i*5)).add 0)=some (.int .i64 q.kd)/\W.cell? ((a.add (i*5)).add 1)=some (.int .i64 q.n)/\W.cell? ((a.add (i*5)).add 2)=some (.int .i64 q.pl)/\W.cell? ((a.add (i*5)).add 3)=some (.string q.tx)/\W.cell? ((a.add (i*5)).add 4)=some (.slice K q.ks.length c))/\Tr.Ints W K q.ks/\q.n<=9223372036854775807/\q.ks.length<=c:=λi hi=>by
   obtain⟨cs',h1,h2⟩:=hcell i hi
   rw[cells37]at h1
   obtain⟨_,hlen,hc⟩:=World.cells?_some h1
   obtain⟨q,K,c,hq,hI⟩:=node_ofB hlen h2
   subst hq
   exact⟨q,K,c,⟨hc 0 (by omega),hc 1 (by omega),hc 2 (by omega),hc 3 (by omega),hc 4 (by omega)⟩,hI⟩
  obtain⟨Q,hQ⟩:=pick_lt ⟨0,0,0,⟨#[]⟩,[]⟩ each
  refine⟨some a,(List.range len).map Q,m,by rw[hcs];simp,λh0 =>?_,by simpa using hl,(λx hx=>by
   obtain⟨i,hi,rfl⟩:=List.mem_map.1 hx
   obtain⟨_,_,_,_,h,_⟩:=hQ i (by have:=List.mem_range.1 hi;omega)
   exact h),λp bA off K m2 c2 hp hA hcl _ h2=>by
   have hp':p<len:=by simpa using hp
   obtain⟨K3,c3,⟨_,_,_,_,e4⟩,_,_,h5⟩:=hQ p (by omega)
   rw[Option.some.inj hA,add_flat,add_flat]at e4
   have h6:=hcl.symm.trans e4
   injection h6 with h6
   injection h6 with x1 x2 x3
   omega⟩
  have h0':0<m:=by simp at h0;omega
  obtain⟨b,off,spot⟩:=a
  obtain⟨K0,c0,⟨h00,_⟩,_⟩:=hQ 0 h0'
  have hspot:spot=none:=by
   have:=World.cell?_spot h00
   simpa [Addr.add]using this
  subst hspot
  have eqs:∀i o,(((⟨b,off,none⟩:Addr).add (i*5)).add o)=⟨b,off+i*5+o,none⟩:=λi o=>by rw[add_flat,add_flat]
  refine⟨b,off,rfl,World.block_lt_of_cell? W _ (by rw[eqs]at h00;exact h00),λj hj =>?_⟩
  have hj':j<len:=by simpa using hj
  obtain⟨K,c,⟨e0,e1,e2,e3,e4⟩,hI,_⟩:=hQ j (by omega)
  rw[eqs]at e0 e1 e2 e3 e4
  simp only[List.getElem_map,List.getElem_range]
  exact⟨K,c,by simpa using e0,e1,e2,e3,e4,hI⟩
set_option maxRecDepth 100000 in
theorem tree_ofB {n:Nat}{cs:List Value}{x:DataW H × List MemPlace}(hlen:cs.length=2)(h:DataW.trod enc Tryz.prog W 0 (λ_=>true) true n 24 cs=some x) :
  ∃(A:Option Addr) (l:List Tr.Nd) (c:Nat) (r:Int),cs=[.slice A l.length c,.int .i64 r]/\Tr.Nds W A l/\l.length<=c/\(∀x ∈ l,x.n<=9223372036854775807)/\Caps W A l:=by
 obtain⟨d,pl⟩:=x
 obtain⟨xs,k,_,_,_,hxl,hel⟩:=DataW.trod_struct under25 h
 obtain⟨f0,g0,t0,o0⟩:=field_of fields25 (i:=0) rfl
 obtain⟨f1,g1,t1,o1⟩:=field_of fields25 (i:=1) rfl
 rw[size25]at hxl
 match cs,hlen,xs,hxl with
 | [v0,v1],_,[x0,x1],_=>
  have e0:=hel 0 f0 g0
  have e1:=hel 1 f1 g1
  rw[t0,o0,cells23]at e0
  rw[t1,o1,cells3]at e1
  obtain⟨A,l,c,q0,hN,hc⟩:=nodes_ofB e0
  obtain⟨a1,q1,_,_⟩:=DataW.trod_int Tryz.underlying3 e1
  simp at q0 q1
  exact⟨A,l,c,a1,by rw[q0,q1],hN,hc⟩
set_option maxRecDepth 100000 in
theorem viewTr {base:Nat}{v:Value}{d:DataW H}{p:List MemPlace}(hv:Value.okWide Tryz.prog W .any base 24 v)(h:DataW.Trod enc Tryz.prog W 0 (λ_=>true) true 24 v d p) :
  ∃(A:Option Addr) (c:Nat) (l:List Tr.Nd) (r:Int),v = .agg #[.slice A l.length c,.int .i64 r]/\Tr.Nds W A l/\l.length<=c/\(∀x ∈ l,x.n<=9223372036854775807)/\Caps W A l:=by
 obtain⟨cs,rfl,hsz⟩:=okWide_struct under25 hv
 rw[cells25]at hsz
 obtain⟨fuel,hf⟩:=h
 obtain⟨A,l,c,r,e,hN,hc⟩:=tree_ofB (cs:=cs.toList) (by simpa using hsz) (by simpa [Value.cells]using hf)
 exact⟨A,c,l,r,by rw[<- e],hN,hc⟩
end
end Go.Proofs.YtedkgofehbecmaaGreatDoor.Vw
