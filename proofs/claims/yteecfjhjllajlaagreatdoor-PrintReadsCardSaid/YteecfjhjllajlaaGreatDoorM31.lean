/- PROVED: Qo Qp Rb. No more condition. -/
import Derived.Test.YteecfjhjllajlaaGreatDoorM23
namespace Go.Proofs.YteecfjhjllajlaaGreatDoor
open Go.Lib (hid)
open Go Go.RowKit
section
set_option maxHeartbeats 1500000
set_option maxRecDepth 100000
open Tr (Bx aa bt au aP ax aA)
def mK (a:t_)(B:Nat)(w:World)(A:Option Addr)(n c:Nat)(r m p er:Int):Prop:=match a with
 | .bad p0 e0=>A=none/\n=0/\c=0/\r=0/\m=0/\p=(p0:Int)/\er=(e0:Int)
 | .good nd nest=>n=nd.length/\r=(nd.length:Int)-1/\m=(nest:Int)/\p=0/\er=0/\j3 B w A (nd.map df)
theorem mK.fr {a:t_}{B:Nat}{E:Nat->Prop}{w w':World}{A:Option Addr}{n c:Nat}{r m p er:Int}(h:mK a B w A n c r m p er)(k:Fr E w w')(hE:∀b,E b->b<B):mK a B w' A n c r m p er:=by
 unfold mK at *
 cases a with
 |bad p0 e0=>exact h
 |good nd nest=>exact⟨h.1,h.2.1,h.2.2.1,h.2.2.2.1,h.2.2.2.2.1,h.2.2.2.2.2.fr k hE⟩
theorem mK.mono {a:t_}{B B':Nat}{w:World}{A:Option Addr}{n c:Nat}{r m p er:Int}(h:mK a B w A n c r m p er)(hB:B'<=B):mK a B' w A n c r m p er:=by
 unfold mK at *
 cases a with
 |bad p0 e0=>exact h
 |good nd nest=>exact⟨h.1,h.2.1,h.2.2.1,h.2.2.2.1,h.2.2.2.2.1,h.2.2.2.2.2.mono hB⟩
def Rx (a:t_)(w:World)(e:Ending)(w':World):Prop:=∃A n c r m p er,e=.returned (.agg #[.slice A n c,.int .i64 r,.int .i64 m,.int .i64 p,.int .i64 er])/\Below w.heap.size w w'/\mK a w.heap.size w' A n c r m p er
theorem j4.g {a:t_}{w w':World}{e:Ending}(h:j4 a w e w'):Rx a w e w':=by
 obtain⟨hb,h⟩:=h;cases a with
 |bad p0 e0=>exact⟨none,0,0,0,0,_,_,h,hb,rfl,rfl,rfl,rfl,rfl,rfl,rfl⟩
 |good nd nest=>
  obtain⟨A,c,he,hN⟩:=h;exact⟨A,_,c,_,_,_,_,he,hb,rfl,rfl,rfl,rfl,rfl,hN⟩
def jw (a:t_)(w:World)(e:Ending)(w':World):Prop:=∃A n c r m p er,e=.returned (.tuple #[.agg #[.slice A n c,.int .i64 r],.int .i64 p,.int .i64 er])/\Below w.heap.size w w'/\mK a w.heap.size w' A n c r m p er
theorem lT (b:Nat)(w:World):(Instr.fieldAt 56 (.pointer (some ⟨b,0,none⟩)) 0).run Tryz.prog w=.ok (.pointer (some ⟨b,0,none⟩)) w:=by kernel_rfl
theorem gq (b:Nat)(w:World):(Instr.fieldAt 56 (.pointer (some ⟨b,0,none⟩)) 2).run Tryz.prog w=.ok (.pointer (some ⟨b,3,none⟩)) w:=by kernel_rfl
theorem lU (b:Nat)(w:World):(Instr.fieldAt 54 (.pointer (some ⟨b,3,none⟩)) 0).run Tryz.prog w=.ok (.pointer (some ⟨b,3,none⟩)) w:=by kernel_rfl
theorem lV (b:Nat)(w:World):(Instr.fieldAt 54 (.pointer (some ⟨b,3,none⟩)) 1).run Tryz.prog w=.ok (.pointer (some ⟨b,4,none⟩)) w:=by kernel_rfl
theorem qm {w:World}{ad:Addr}{n:Int}(h:w.cell? ad=some (.int .i64 n)):(Instr.loadAt 26 (.pointer (some ad))).run Tryz.prog w=.ok (.int .i64 n) w:=by simp[go_sem,h]
theorem qo {w:World}{b:Nat}{n c:Nat}{A:Option Addr}{r:Int}(h0:w.cell? ⟨b,0,none⟩=some (.slice A n c))(h1:w.cell? ⟨b,1,none⟩=some (.int .i64 r)):(Instr.loadAt 25 (.pointer (some ⟨b,0,none⟩))).run Tryz.prog w=.ok (.agg #[.slice A n c,.int .i64 r]) w:=by simp[go_sem,h0,h1]
theorem oD (s:ByteArray)(w:World)(hE:Tk.mX w)(hs:s.size<=20000):Calls Tryz.prog 16 #[.string s] w (jw (eG iH s.data.toList) w):=by
 have hb0:Below w.heap.size w (w.alloc (.cells #[.slice none 0 0,.int .i64 0] 25)):=aa _ _;have HC:=hid ((O4 s _ (hE.below hb0) hs).mono λ_ _ q=>q.g);generalize eG iH s.data.toList=a at *
 clear hE hs;go_enter Tryz.func16,Tryz.ntmps16
 go_wp2_with (go_at_call 54;refine HC.out.mono ?_);rintro e w1 ⟨A,n,c,r,m,p,er,rfl,hb1,hA⟩;obtain⟨W4,hW4⟩:∃W4,w1.alloc (.cells #[.slice A n c,.int .i64 r,.int .i64 m,.int .i64 p,.int .i64 er] 56)=W4:=⟨_,rfl⟩;have hb4:Below w1.heap.size w1 W4:=by rw[<- hW4];exact aa _ _
 have hR4:Bx W4 w1.heap.size 56 [.slice A n c,.int .i64 r,.int .i64 m,.int .i64 p,.int .i64 er]:=by rw[<- hW4];exact Bx.new w1 56 _
 have hT1:=(Bx.new w 25 [.slice none 0 0,.int .i64 0]).below hb1 (Bx.new w 25 _).lt;have hT4:=hT1.below hb4 hT1.lt;have hA4:=(hA.mono (B':=w.heap.size+1) (by rw[World.size_alloc];exact Nat.le_refl _)).fr (E:=λ_=>False) (Fr.of hb4) (λ_ q=>q.elim);have HX:=hid (And.intro (bt (bt hb0 hb1) hb4) (And.intro hR4 (And.intro hT4 (And.intro hA4 hT1.lt))));have HW4:=hid hW4;clear hb1 hA hb4 hR4 hT1 hT4 hA4 hW4 hb0
 go_upto_region 2 with(fail)
 rw[HW4.out];obtain⟨hb4,hR4,hT4,hA4,hlt⟩:=HX.out;obtain⟨W5,hW5⟩:∃W5:World,{W4 with drawn:=W4.drawn+1}=W5:=⟨_,rfl⟩;have hT5:Bx W5 w.heap.size 25 [.slice none 0 0,.int .i64 0]:=by rw[<- hW5];exact hT4
 have hS:Bx W5 w1.heap.size 56 [.slice A n c,.int .i64 r,.int .i64 m,.int .i64 p,.int .i64 er]/\∃u0 u1,Bx W5 w.heap.size 25 [u0,u1]:=⟨by rw[<- hW5];exact hR4,_,_,hT5⟩;have hb5:Below w.heap.size w W5:=by rw[<- hW5];exact dW hb4
 have hA5:mK a (w.heap.size+1) W5 A n c r m p er:=by rw[<- hW5];exact hA4.fr (E:=λ_=>False) (Fr.of (dW (Below.refl _ _))) (λ_ q=>q.elim)
 have hne:w1.heap.size≠w.heap.size:=by omega
 refine wp_region_held (S:=λw'=>Bx w' w1.heap.size 56 [.slice A n c,.int .i64 r,.int .i64 m,.int .i64 p,.int .i64 er]/\∃u0 u1,Bx w' w.heap.size 25 [u0,u1]) (by kernel_rfl) ?_;rw[hW5];clear hW5 hb4 hR4 hT4 hA4 HX HW4 HC;refine aG 0 (.pointer (some ⟨w1.heap.size,0,none⟩)) (by kernel_rfl) rfl rfl (λ_ _ _ h=>h) rfl (ay rfl rfl (lT _)) hS ?_;simp only[ap];refine aG 1 (.agg #[.slice A n c,.int .i64 r]) (by kernel_rfl) rfl rfl (λ_ _ _ h=>h) rfl (ak rfl rfl (λw' q=>qo ((q.1.cell 0).trans rfl) ((q.1.cell 1).trans rfl))) hS ?_;simp only[ap];refine aG 2 (.pointer (some ⟨w1.heap.size,3,none⟩)) (by kernel_rfl) rfl rfl (λ_ _ _ h=>h) rfl (ay rfl rfl (gq _)) hS ?_;simp only[ap];refine aG 3 (.pointer (some ⟨w1.heap.size,3,none⟩)) (by kernel_rfl) rfl rfl (λ_ _ _ h=>h) rfl (ay rfl rfl (lU _)) hS ?_;simp only[ap];refine aG 4 (.int .i64 p) (by kernel_rfl) rfl rfl (λ_ _ _ h=>h) rfl (ak rfl rfl (λw' q=>aB ((q.1.cell 3).trans rfl))) hS ?_;simp only[ap];refine aG 5 (.pointer (some ⟨w1.heap.size,3,none⟩)) (by kernel_rfl) rfl rfl (λ_ _ _ h=>h) rfl (ay rfl rfl (gq _)) hS ?_;simp only[ap];refine aG 6 (.pointer (some ⟨w1.heap.size,4,none⟩)) (by kernel_rfl) rfl rfl (λ_ _ _ h=>h) rfl (ay rfl rfl (lV _)) hS ?_;simp only[ap];refine aG 7 (.int .i64 er) (by kernel_rfl) rfl rfl (λ_ _ _ h=>h) rfl (ak rfl rfl (λw' q=>qm ((q.1.cell 4).trans rfl))) hS ?_
 simp only[ap];have hT6:=(hT5.set_ 0 (.slice A n c)).set_ 1 (.int .i64 r);simp only[List.set_cons_zero,List.set_cons_succ]at hT6;have hS6:=(hS.1.far (p:=⟨w.heap.size,0,none⟩) hne (.slice A n c)).far (p:=⟨w.heap.size,1,none⟩) hne (.int .i64 r);have hF6:Fr (λb=>b=w.heap.size) W5 ((W5.setCell ⟨w.heap.size,0,none⟩ (.slice A n c)).setCell ⟨w.heap.size,1,none⟩ (.int .i64 r)):=(Fr.set (E:=λb=>b=w.heap.size) (Fr.refl _ _) rfl _).set rfl _;have hb6:=(hb5.setCell (p:=⟨w.heap.size,0,none⟩) (Nat.le_refl _) (.slice A n c)).setCell (p:=⟨w.heap.size,1,none⟩) (Nat.le_refl _) (.int .i64 r);refine dQ 8 ({dst:=none,op:=Op.store 25 (Operand.tmp 2) (Operand.tmp 9),type:=0,pos := "parse.go:13",after := #[{on:=1,ground:=Ground.data},{on:=0,ground:=Ground.phase},{on:=1,ground:=Ground.phase},{on:=2,ground:=Ground.textOnly Departure.lateStores},{on:=3,ground:=Ground.textOnly Departure.lateStores},{on:=4,ground:=Ground.textOnly Departure.lateStores},{on:=5,ground:=Ground.textOnly Departure.lateStores},{on:=6,ground:=Ground.textOnly Departure.lateStores},{on:=7,ground:=Ground.textOnly Departure.lateStores}],guard:=none}:Oper) rfl (by kernel_rfl) rfl (uo rfl rfl rfl hT5 ⟨⟨hS6,_,_,hT6⟩,?_⟩);simp only[Act.put]
 have hS9:Bx ((W5.setCell ⟨w.heap.size,0,none⟩ (.slice A n c)).setCell ⟨w.heap.size,1,none⟩ (.int .i64 r)) w1.heap.size 56 [.slice A n c,.int .i64 r,.int .i64 m,.int .i64 p,.int .i64 er]/\∃u0 u1,Bx ((W5.setCell ⟨w.heap.size,0,none⟩ (.slice A n c)).setCell ⟨w.heap.size,1,none⟩ (.int .i64 r)) w.heap.size 25 [u0,u1]:=⟨hS6,_,_,hT6⟩;refine aG 9 (.int .i64 p) (by kernel_rfl) rfl rfl (λ_ _ _ h=>h) rfl (di rfl rfl) hS9 ?_;simp only[ap];refine aG 10 (.int .i64 er) (by kernel_rfl) rfl rfl (λ_ _ _ h=>h) rfl (di rfl rfl) hS9 ?_;simp only[ap];refine wpAnyH_done (by kernel_rfl) ?_ _;have hA6:=(hA5.fr hF6 (λb q=>by omega)).mono (B':=w.heap.size) (by omega);have z0:=(hT6.cell 0).trans rfl;have z1:=(hT6.cell 1).trans rfl;generalize (W5.setCell ⟨w.heap.size,0,none⟩ (.slice A n c)).setCell ⟨w.heap.size,1,none⟩ (.int .i64 r)=W6 at *
 have HE:=hid (And.intro hb6 hA6);clear hb6 hA6 hT6 hS6 hS9 hF6 hS hT5 hA5 hb5 hne hlt;go_wp2;exact bodyPost_ret (v :=.tuple #[.agg #[.slice A n c,.int .i64 r],.int .i64 p,.int .i64 er]) (by simp[results,Tryz.f16,go_sem,z0,z1]) rfl ⟨A,n,c,r,m,p,er,rfl,HE.out.1,HE.out.2⟩
theorem vH (s:ByteArray)(w:World)(hE:Tk.mX w)(hs:s.size<=20000):Calls Tryz.prog 29 #[.string s] w (jw (eG gP s.data.toList) w):=by
 have hb0:Below w.heap.size w (w.alloc (.cells #[.slice none 0 0,.int .i64 0] 25)):=aa _ _;have HC:=hid ((O5 s _ (hE.below hb0) hs).mono λ_ _ q=>q.g);generalize eG gP s.data.toList=a at *
 clear hE hs;go_enter Tryz.func29,Tryz.ntmps29
 go_wp2_with (go_at_call 54;refine HC.out.mono ?_);rintro e w1 ⟨A,n,c,r,m,p,er,rfl,hb1,hA⟩;obtain⟨W4,hW4⟩:∃W4,w1.alloc (.cells #[.slice A n c,.int .i64 r,.int .i64 m,.int .i64 p,.int .i64 er] 56)=W4:=⟨_,rfl⟩;have hb4:Below w1.heap.size w1 W4:=by rw[<- hW4];exact aa _ _
 have hR4:Bx W4 w1.heap.size 56 [.slice A n c,.int .i64 r,.int .i64 m,.int .i64 p,.int .i64 er]:=by rw[<- hW4];exact Bx.new w1 56 _
 have hT1:=(Bx.new w 25 [.slice none 0 0,.int .i64 0]).below hb1 (Bx.new w 25 _).lt;have hT4:=hT1.below hb4 hT1.lt;have hA4:=(hA.mono (B':=w.heap.size+1) (by rw[World.size_alloc];exact Nat.le_refl _)).fr (E:=λ_=>False) (Fr.of hb4) (λ_ q=>q.elim);have HX:=hid (And.intro (bt (bt hb0 hb1) hb4) (And.intro hR4 (And.intro hT4 (And.intro hA4 hT1.lt))));have HW4:=hid hW4;clear hb1 hA hb4 hR4 hT1 hT4 hA4 hW4 hb0
 go_upto_region 2 with(fail)
 rw[HW4.out];obtain⟨hb4,hR4,hT4,hA4,hlt⟩:=HX.out;obtain⟨W5,hW5⟩:∃W5:World,{W4 with drawn:=W4.drawn+1}=W5:=⟨_,rfl⟩;have hT5:Bx W5 w.heap.size 25 [.slice none 0 0,.int .i64 0]:=by rw[<- hW5];exact hT4
 have hS:Bx W5 w1.heap.size 56 [.slice A n c,.int .i64 r,.int .i64 m,.int .i64 p,.int .i64 er]/\∃u0 u1,Bx W5 w.heap.size 25 [u0,u1]:=⟨by rw[<- hW5];exact hR4,_,_,hT5⟩;have hb5:Below w.heap.size w W5:=by rw[<- hW5];exact dW hb4
 have hA5:mK a (w.heap.size+1) W5 A n c r m p er:=by rw[<- hW5];exact hA4.fr (E:=λ_=>False) (Fr.of (dW (Below.refl _ _))) (λ_ q=>q.elim)
 have hne:w1.heap.size≠w.heap.size:=by omega
 refine wp_region_held (S:=λw'=>Bx w' w1.heap.size 56 [.slice A n c,.int .i64 r,.int .i64 m,.int .i64 p,.int .i64 er]/\∃u0 u1,Bx w' w.heap.size 25 [u0,u1]) (by kernel_rfl) ?_;rw[hW5];clear hW5 hb4 hR4 hT4 hA4 HX HW4 HC;refine aG 0 (.pointer (some ⟨w1.heap.size,0,none⟩)) (by kernel_rfl) rfl rfl (λ_ _ _ h=>h) rfl (ay rfl rfl (lT _)) hS ?_;simp only[ap];refine aG 1 (.agg #[.slice A n c,.int .i64 r]) (by kernel_rfl) rfl rfl (λ_ _ _ h=>h) rfl (ak rfl rfl (λw' q=>qo ((q.1.cell 0).trans rfl) ((q.1.cell 1).trans rfl))) hS ?_;simp only[ap];refine aG 2 (.pointer (some ⟨w1.heap.size,3,none⟩)) (by kernel_rfl) rfl rfl (λ_ _ _ h=>h) rfl (ay rfl rfl (gq _)) hS ?_;simp only[ap];refine aG 3 (.pointer (some ⟨w1.heap.size,3,none⟩)) (by kernel_rfl) rfl rfl (λ_ _ _ h=>h) rfl (ay rfl rfl (lU _)) hS ?_;simp only[ap];refine aG 4 (.int .i64 p) (by kernel_rfl) rfl rfl (λ_ _ _ h=>h) rfl (ak rfl rfl (λw' q=>aB ((q.1.cell 3).trans rfl))) hS ?_;simp only[ap];refine aG 5 (.pointer (some ⟨w1.heap.size,3,none⟩)) (by kernel_rfl) rfl rfl (λ_ _ _ h=>h) rfl (ay rfl rfl (gq _)) hS ?_;simp only[ap];refine aG 6 (.pointer (some ⟨w1.heap.size,4,none⟩)) (by kernel_rfl) rfl rfl (λ_ _ _ h=>h) rfl (ay rfl rfl (lV _)) hS ?_;simp only[ap];refine aG 7 (.int .i64 er) (by kernel_rfl) rfl rfl (λ_ _ _ h=>h) rfl (ak rfl rfl (λw' q=>qm ((q.1.cell 4).trans rfl))) hS ?_
 simp only[ap];have hT6:=(hT5.set_ 0 (.slice A n c)).set_ 1 (.int .i64 r);simp only[List.set_cons_zero,List.set_cons_succ]at hT6;have hS6:=(hS.1.far (p:=⟨w.heap.size,0,none⟩) hne (.slice A n c)).far (p:=⟨w.heap.size,1,none⟩) hne (.int .i64 r);have hF6:Fr (λb=>b=w.heap.size) W5 ((W5.setCell ⟨w.heap.size,0,none⟩ (.slice A n c)).setCell ⟨w.heap.size,1,none⟩ (.int .i64 r)):=(Fr.set (E:=λb=>b=w.heap.size) (Fr.refl _ _) rfl _).set rfl _;have hb6:=(hb5.setCell (p:=⟨w.heap.size,0,none⟩) (Nat.le_refl _) (.slice A n c)).setCell (p:=⟨w.heap.size,1,none⟩) (Nat.le_refl _) (.int .i64 r);refine dQ 8 ({dst:=none,op:=Op.store 25 (Operand.tmp 2) (Operand.tmp 9),type:=0,pos := "parse.go:19",after := #[{on:=1,ground:=Ground.data},{on:=0,ground:=Ground.phase},{on:=1,ground:=Ground.phase},{on:=2,ground:=Ground.textOnly Departure.lateStores},{on:=3,ground:=Ground.textOnly Departure.lateStores},{on:=4,ground:=Ground.textOnly Departure.lateStores},{on:=5,ground:=Ground.textOnly Departure.lateStores},{on:=6,ground:=Ground.textOnly Departure.lateStores},{on:=7,ground:=Ground.textOnly Departure.lateStores}],guard:=none}:Oper) rfl (by kernel_rfl) rfl (uo rfl rfl rfl hT5 ⟨⟨hS6,_,_,hT6⟩,?_⟩);simp only[Act.put]
 have hS9:Bx ((W5.setCell ⟨w.heap.size,0,none⟩ (.slice A n c)).setCell ⟨w.heap.size,1,none⟩ (.int .i64 r)) w1.heap.size 56 [.slice A n c,.int .i64 r,.int .i64 m,.int .i64 p,.int .i64 er]/\∃u0 u1,Bx ((W5.setCell ⟨w.heap.size,0,none⟩ (.slice A n c)).setCell ⟨w.heap.size,1,none⟩ (.int .i64 r)) w.heap.size 25 [u0,u1]:=⟨hS6,_,_,hT6⟩;refine aG 9 (.int .i64 p) (by kernel_rfl) rfl rfl (λ_ _ _ h=>h) rfl (di rfl rfl) hS9 ?_;simp only[ap];refine aG 10 (.int .i64 er) (by kernel_rfl) rfl rfl (λ_ _ _ h=>h) rfl (di rfl rfl) hS9 ?_;simp only[ap];refine wpAnyH_done (by kernel_rfl) ?_ _;have hA6:=(hA5.fr hF6 (λb q=>by omega)).mono (B':=w.heap.size) (by omega);have z0:=(hT6.cell 0).trans rfl;have z1:=(hT6.cell 1).trans rfl;generalize (W5.setCell ⟨w.heap.size,0,none⟩ (.slice A n c)).setCell ⟨w.heap.size,1,none⟩ (.int .i64 r)=W6 at *
 have HE:=hid (And.intro hb6 hA6);clear hb6 hA6 hT6 hS6 hS9 hF6 hS hT5 hA5 hb5 hne hlt;go_wp2;exact bodyPost_ret (v :=.tuple #[.agg #[.slice A n c,.int .i64 r],.int .i64 p,.int .i64 er]) (by simp[results,Tryz.f29,go_sem,z0,z1]) rfl ⟨A,n,c,r,m,p,er,rfl,HE.out.1,HE.out.2⟩
end
section
open Tr (Bx aa bt au aP ax aA)
end
section
open Tr (Bx aa bt au aP ax aA)
def nE:List UInt8:=[40,49]
theorem oF {R:List Tok->Rs}{l:List UInt8}{ts:List Tk.Tok}{p e:Nat}(h1:Tk.fT l 0=.ok ts)(h2:R (ts.map um)=.no p e):eG R l=.bad p e:=by
 unfold eG;rw[h1];show(match R (ts.map um) with| .out=>t_.bad 0 0 | .no p e =>.bad p e | .ok _ s=>if 4000<s.nd.length then .bad 0 8 else if 40<Tr.dpt (s.nd.map df) ((s.nd.length:Int)-1) then .bad 0 6 else .good s.nd s.mo)=_;rw[h2]
theorem j5 {R:List Tok->Rs}{l:List UInt8}{ts:List Tk.Tok}{v:List Int}{s:St}(h1:Tk.fT l 0=.ok ts)(h2:R (ts.map um)=.ok v s):eG R l=if 4000<s.nd.length then .bad 0 8 else if 40<Tr.dpt (s.nd.map df) ((s.nd.length:Int)-1) then .bad 0 6 else .good s.nd s.mo:=by
 unfold eG;rw[h1];show(match R (ts.map um) with| .out=>t_.bad 0 0 | .no p e =>.bad p e | .ok _ s=>if 4000<s.nd.length then .bad 0 8 else if 40<Tr.dpt (s.nd.map df) ((s.nd.length:Int)-1) then .bad 0 6 else .good s.nd s.mo)=_;rw[h2]
theorem kJ {R:List Tok->Rs}{l:List UInt8}{p:Nat}(h1:Tk.fT l 0=.bad p):eG R l=.bad p 2:=by unfold eG;rw[h1]
end
end Go.Proofs.YteecfjhjllajlaaGreatDoor
