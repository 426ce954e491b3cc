/- PROVED here: parts VaF VaG VaH VaI of the claim. No condition but those in each theorem's own head. -/
import Derived.Test.YtignojhijmamhaaGreatJ25
import Derived.Laws.LoneSync
import Derived.Laws.Pointers
import Derived.ChangeAlike
import Derived.RegionCalls
import Derived.Lib.QuietBelow
namespace Go.Proofs.YtignojhijmamhaaGreat.Va
open Go Go.RowKit
def ints (l:List Int):List Value:=l.map (Value.int .i64)
theorem ints_len (l:List Int):(ints l).length=l.length:=List.length_map _
theorem ints_get {l:List Int}{j:Nat}(hj:j<l.length):(ints l)[j]?=some (.int .i64 l[j]):=by simp[ints,hj]
theorem ints_set (l:List Int)(j:Nat)(x:Int):(ints l).set j (.int .i64 x)=ints (l.set j x):=by simp[ints,List.map_set]
def cellsL:List (List Int)→Int
 | []=>0
 |l :: r=>(l.length:Int)+1+cellsL r
theorem cells_app (a b:List (List Int)):cellsL (a++b)=cellsL a+cellsL b:=by
 induction a with
 |nil=>simp[cellsL]
 |cons x a ih=>show _+_+cellsL (a++b)=_;rw[ih];simp only[cellsL];omega
theorem cells_ge (L:List (List Int)):(L.length:Int)≤cellsL L:=by
 induction L with
 |nil=>simp[cellsL]
 |cons x a ih=>simp only[cellsL,List.length_cons];omega
theorem cells_set:∀(L:List (List Int)) (i:Nat) (l:List Int),(∀hi:i<L.length,L[i].length=l.length)→cellsL (L.set i l)=cellsL L
 | [],_,_,_=>rfl
 |x :: r,0,l,h=>by have:=h (by simp);simp only[List.set_cons_zero,cellsL];simp at this;omega
 |x :: r,i+1,l,h=>by
  simp only[List.set_cons_succ,cellsL]
  rw[cells_set r i l (fun hi=>by have:=h (by simpa using hi);simpa using this)]
theorem cells_take_succ {L:List (List Int)}{k:Nat}(hk:k<L.length):cellsL (L.take (k+1))=cellsL (L.take k)+((L[k].length:Int)+1):=by
 rw[List.take_succ_eq_append_getElem hk,cells_app];simp[cellsL]
theorem cells_take_le (L:List (List Int))(k:Nat):cellsL (L.take k)≤cellsL L:=by
 have h:=cells_app (L.take k) (L.drop k)
 rw[List.take_append_drop]at h
 have:=cells_ge (L.drop k)
 omega
theorem cells_row {L:List (List Int)}{k:Nat}(hk:k<L.length):(L[k].length:Int)≤cellsL L:=by
 have h1:=cells_take_succ hk
 have h2:=cells_take_le L (k+1)
 have h3:=cells_ge (L.take k)
 omega
def newV (L:List (List Int))(n:Int):(Int × Int) × Int × Bool:=if n<0∨65536<n then ((0,0),4,true) else if 262144<cellsL L+(n+1) then ((0,0),0,false) else ((3,(L.length:Int)+1),0,true)
def newH (L:List (List Int))(n:Int):List (List Int):=if n<0∨65536<n then L else if 262144<cellsL L+(n+1) then L else L++[List.replicate n.toNat 0]
def hasB (L:List (List Int))(k n:Int):Bool:=decide (k=3)&&(decide (1≤n)&&decide (n≤(L.length:Int)))
def rowAt (L:List (List Int))(n:Int):List Int:=L.getD (n-1).toNat []
def lenH (L:List (List Int))(k n:Int):Int:=if hasB L k n then ((rowAt L n).length:Int) else 0
def wrongH (L:List (List Int))(k n j i:Int):Int:=if hasB L k n then (if j=1∧0≤i∧i<((rowAt L n).length:Int) then 0 else 2) else 3
def getV (L:List (List Int))(k n j i:Int):(Int × Int) × Int:=if wrongH L k n j i=0 then ((1,(rowAt L n).getD i.toNat 0),0) else ((0,0),wrongH L k n j i)
def setH (L:List (List Int))(k n j i vk vn:Int):List (List Int):=if wrongH L k n j i=0∧vk=1 then L.set (n-1).toNat ((rowAt L n).set i.toNat vn) else L
theorem has_yes {L:List (List Int)}{k n:Int}(h:hasB L k n=true):k=3∧1≤n∧n≤(L.length:Int):=by simpa [hasB]using h
theorem has_at {L:List (List Int)}{k n:Int}(h:hasB L k n=true):∃i:Nat,n=(i:Int)+1∧∃hi:i<L.length,rowAt L n=L[i]:=by
 obtain⟨_,h1,h2⟩:=has_yes h
 refine⟨(n-1).toNat,by omega,by omega,?_⟩
 unfold rowAt
 rw[List.getD_eq_getElem?_getD,List.getElem?_eq_getElem (show(n-1).toNat<L.length by omega)]
 rfl
theorem wrong_zero {L:List (List Int)}{k n j i:Int}(h:wrongH L k n j i=0):hasB L k n=true∧j=1∧0≤i∧i<((rowAt L n).length:Int):=by
 unfold wrongH at h
 cases hb:hasB L k n with
 |false=>rw[hb]at h;simp at h
 |true=>
  rw[hb]at h
  by_cases hc:j=1∧0≤i∧i<((rowAt L n).length:Int)
  ·exact⟨rfl,hc⟩
  ·simp[hc]at h
structure Fr (F:Nat→Prop) (w w':World):Prop where
 os:w'.os=w.os
 tape:w'.tape=w.tape
 output:w'.output=w.output
 size:w.heap.size≤w'.heap.size
 block:∀b,b<w.heap.size→¬F b→w'.heap[b]?=w.heap[b]?
theorem Fr.refl (F:Nat→Prop)(w:World):Fr F w w:=⟨rfl,rfl,rfl,Nat.le_refl _,fun _ _ _=>rfl⟩
theorem Fr.trans {F G:Nat→Prop}{a b c:World}(h:Fr F a b)(k:Fr G b c)(hG:∀x,G x→F x∨a.heap.size≤x):Fr F a c:=
 ⟨k.os.trans h.os,k.tape.trans h.tape,k.output.trans h.output,Nat.le_trans h.size k.size,fun x hx hn=>(k.block x (Nat.lt_of_lt_of_le hx h.size) (fun hg=>(hG x hg).elim hn (by omega))).trans (h.block x hx hn)⟩
theorem Fr.of_below {F:Nat→Prop}{a b:World}(h:Below a.heap.size a b):Fr F a b:=⟨h.os,h.tape,h.output,h.size,fun x hx _=>h.block x hx⟩
theorem Fr.to_below {F:Nat→Prop}{a b:World}(h:Fr F a b){B:Nat}(hB:B≤a.heap.size)(hF:∀x,F x→B≤x):Below B a b:=
 ⟨h.os,h.tape,h.output,h.size,fun x hx=>h.block x (by omega) (fun hf=>by have:=hF x hf;omega)⟩
theorem Fr.mono {F G:Nat→Prop}{a b:World}(h:Fr F a b)(hG:∀x,F x→G x):Fr G a b:=⟨h.os,h.tape,h.output,h.size,fun x hx hn=>h.block x hx (fun hf=>hn (hG x hf))⟩
theorem Fr.drew {F:Nat→Prop}{a b:World}(h:Fr F a b):Fr F a b.drew:=⟨h.os,h.tape,h.output,h.size,h.block⟩
theorem Bx.fr {w w':World}{b:Nat}{t:TypeId}{l:List Value}(h:Bx w b t l){F:Nat→Prop}(k:Fr F w w')(hn:¬F b):Bx w' b t l:=(k.block b h.lt hn).trans h
theorem own_lt {w:World}{base:Nat}{e:TypeId}{size n:Nat}{v:Value}{xs:List Value}(h:w.ownsRow base e size v n xs){k:Nat}(hk:v.ownBlock=some k):k<w.heap.size:=(h.lt k hk).2
theorem own_fr {w w':World}{base:Nat}{e:TypeId}{size n:Nat}{v:Value}{xs:List Value}(h:w.ownsRow base e size v n xs){F:Nat→Prop}(k:Fr F w w')(hn:∀b,v.ownBlock=some b→¬F b):w'.ownsRow base e size v n xs:=by
 refine⟨h.1,h.2.imp id ?_⟩
 rintro⟨g,cap,cur,h1,h2,h3,h4⟩
 exact⟨g,cap,cur,h1,h2,(k.block g (Array.getElem?_eq_some_iff.1 h3).1 (hn g (by rw[h1];rfl))).trans h3,h4⟩
theorem own_below {w w':World}{base:Nat}{e:TypeId}{size n:Nat}{v:Value}{xs:List Value}(h:w.ownsRow base e size v n xs)(hb:Below w.heap.size w w'):w'.ownsRow base e size v n xs:=own_fr h (F:=fun _=>False) (Fr.of_below hb) (fun _ _=>id)
theorem own_ne {w:World}{b1 b2:Nat}{e1 e2:TypeId}{s1 s2 n1 n2:Nat}{v1 v2:Value}{x1 x2:List Value}(h1:w.ownsRow b1 e1 s1 v1 n1 x1)(h2:w.ownsRow b2 e2 s2 v2 n2 x2)(hne:e1≠e2){k:Nat}(hk:v1.ownBlock=some k):v2.ownBlock≠some k:=by
 rcases h1.2 with⟨rfl,_⟩ |⟨g1,c1,cur1,rfl,_,g1h,_⟩
 ·cases hk
 ·rcases h2.2 with⟨rfl,_⟩ |⟨g2,c2,cur2,rfl,_,g2h,_⟩
  ·intro h;cases h
  ·intro h
   simp only[Value.ownBlock,Option.some.injEq]at hk h
   subst hk
   rw[h]at g2h
   rw[g1h]at g2h
   injection g2h with g2h
   injection g2h with _ h3
   exact hne h3
theorem own_bx_ne {w:World}{b1:Nat}{e1 t:TypeId}{s1 n1:Nat}{v1:Value}{x1 l:List Value}(h1:w.ownsRow b1 e1 s1 v1 n1 x1){g:Nat}(h2:Bx w g t l)(hne:e1≠t):v1.ownBlock≠some g:=by
 rcases h1.2 with⟨rfl,_⟩ |⟨g1,c1,cur1,rfl,_,g1h,_⟩
 ·intro h;cases h
 ·intro h
  simp only[Value.ownBlock,Option.some.injEq]at h
  subst h
  unfold Bx at h2
  rw[g1h]at h2
  injection h2 with h2
  injection h2 with _ h3
  exact hne h3
structure Ars (w:World) (base:Nat) (v:Value) (vs:List Value) (L:List (List Int)):Prop where
 len:vs.length=L.length
 own:w.ownsRow base 64 1 v L.length vs
 row:∀i (hi:i<vs.length) (hl:i<L.length),w.ownsRow base 3 1 vs[i] L[i].length (ints L[i])
 ne:∀i j (hi:i<vs.length) (hj:j<vs.length),i≠j→∀k,vs[i].ownBlock=some k→vs[j].ownBlock≠some k
def Fp (g:Nat)(v:Value)(vs:List Value)(b:Nat):Prop:=b=g∨v.ownBlock=some b∨∃x ∈ vs,x.ownBlock=some b
theorem Ars.fr {w w':World}{base:Nat}{v:Value}{vs:List Value}{L:List (List Int)}(h:Ars w base v vs L){F:Nat→Prop}(k:Fr F w w')(g:Nat)(hn:∀b,Fp g v vs b→¬F b):Ars w' base v vs L:=
 ⟨h.len,own_fr h.own k (fun b hb=>hn b (.inr (.inl hb))),fun i hi hl=>own_fr (h.row i hi hl) k (fun b hb=>hn b (.inr (.inr ⟨_,List.getElem_mem hi,hb⟩))),h.ne⟩
theorem Ars.lt {w:World}{base:Nat}{v:Value}{vs:List Value}{L:List (List Int)}(h:Ars w base v vs L){g b:Nat}(hg:g<w.heap.size)(hb:Fp g v vs b):b<w.heap.size:=by
 rcases hb with rfl |hb |⟨x,hx,hb⟩
 ·exact hg
 ·exact own_lt h.own hb
 ·obtain⟨i,hi,rfl⟩:=List.mem_iff_getElem.1 hx
  exact own_lt (h.row i hi (by rw[← h.len];exact hi)) hb
theorem Ars.ge {w:World}{base:Nat}{v:Value}{vs:List Value}{L:List (List Int)}(h:Ars w base v vs L){g b:Nat}(hg:base≤g)(hb:Fp g v vs b):base≤b:=by
 rcases hb with rfl |hb |⟨x,hx,hb⟩
 ·exact hg
 ·exact(h.own.lt _ hb).1
 ·obtain⟨i,hi,rfl⟩:=List.mem_iff_getElem.1 hx
  exact((h.row i hi (by rw[← h.len];exact hi)).lt _ hb).1
structure Hp (T:TypeId) (C:List (List Int)→List Value) (w:World) (base g:Nat) (v:Value) (vs:List Value) (L:List (List Int)):Prop where
 bx:Bx w g T (v :: C L)
 ar:Ars w base v vs L
 cap:cellsL L≤262144
 ge:base≤g
def C46 (L:List (List Int)):List Value:=[.int .i64 (cellsL L)]
def C49 (_:List (List Int)):List Value:=[]
section
variable {T:TypeId} {C:List (List Int)→List Value} {w w':World} {base g:Nat} {v:Value} {vs:List Value} {L:List (List Int)}
theorem Hp.fr (h:Hp T C w base g v vs L){F:Nat→Prop}(k:Fr F w w')(hn:∀b,Fp g v vs b→¬F b):Hp T C w' base g v vs L:=
 ⟨h.bx.fr k (hn g (.inl rfl)),h.ar.fr k g hn,h.cap,h.ge⟩
theorem Hp.below (h:Hp T C w base g v vs L)(hb:Below w.heap.size w w'):Hp T C w' base g v vs L:=h.fr (F:=fun _=>False) (Fr.of_below hb) (fun _ _=>id)
theorem Hp.lt (h:Hp T C w base g v vs L){b:Nat}(hb:Fp g v vs b):b<w.heap.size:=h.ar.lt h.bx.lt hb
theorem Hp.foot (h:Hp T C w base g v vs L){b:Nat}(hb:Fp g v vs b):base≤b:=h.ar.ge h.ge hb
theorem Hp.few (h:Hp T C w base g v vs L):L.length≤262144:=by have:=cells_ge L;have:=h.cap;omega
theorem Hp.slice (h:Hp T C w base g v vs L):∃A c,v = .slice A L.length c:=by
 rcases h.ar.own.2 with⟨e1,e2⟩ |⟨g1,cap,cur,e1,_⟩
 ·exact⟨none,0,by rw[e1,e2]⟩
 ·exact⟨_,_,e1⟩
theorem Hp.row (h:Hp T C w base g v vs L){i:Nat}(hi:i<L.length):∃b c,v = .slice (some ⟨b,0,none⟩) L.length c∧b<w.heap.size∧∃A d,w.cell? ⟨b,i,none⟩=some (.slice A L[i].length d)∧(∀j (hj:j<L[i].length),∃r,A=some ⟨r,0,none⟩∧r<w.heap.size∧w.cell? ⟨r,j,none⟩=some (.int .i64 L[i][j])∧w.frozen? ⟨r,j,none⟩=false):=by
 have hiv:i<vs.length:=by rw[h.ar.len];exact hi
 have ho:=h.ar.own
 have hr:=h.ar.row i hiv hi
 rcases ho.2 with⟨_,e2⟩ |⟨b,c,cur,e1,hb,hg,_⟩
 ·omega
 ·refine⟨b,c,e1,(Array.getElem?_eq_some_iff.1 hg).1,?_⟩
  rw[e1]at ho
  have hc:=ho.cellAt i (by omega)
  rw[List.getElem?_eq_getElem hiv]at hc
  rcases hr.2 with⟨e3,e4⟩ |⟨r,d,cur2,e3,_,hg2,_⟩
  ·exact⟨none,0,by rw[hc,e3,e4],fun j hj=>by omega⟩
  ·refine⟨some ⟨r,0,none⟩,d,by rw[hc,e3],fun j hj=>⟨r,rfl,(Array.getElem?_eq_some_iff.1 hg2).1,?_,?_⟩⟩
   ·rw[e3]at hr
    rw[hr.cellAt j (by omega)]
    exact ints_get hj
   ·rw[e3]at hr
    exact hr.frozenAt j
end
end Go.Proofs.YtignojhijmamhaaGreat.Va
namespace Go.Proofs.YtignojhijmamhaaGreat.Va
open Go Go.RowKit Go.Sort
theorem aload_any (a:Addr)(n:Int)(w:World)(hc:w.cell? a=some (.int .i64 n)):Calls Tryz.prog 28 #[.pointer (some a)] w fun e w'=>e = .returned (.int .i64 n)∧w=w':=by
 have hl:=run_call_load (P:=Tryz.prog) Tryz.func53 (by kernel_rfl) (by kernel_rfl) (by kernel_rfl) .i64 (by kernel_rfl) hc
 go_enter Tryz.func28,Tryz.ntmps28
 go_wp2
 go_ret
 exact⟨rfl,rfl⟩
theorem aadd_any (a:Addr)(n d:Int)(w:World)(hc:w.cell? a=some (.int .i64 n))(hz:w.frozen? a=false):Calls Tryz.prog 29 #[.pointer (some a),.int .i64 d] w fun e w'=>e = .returned (.int .i64 (wrap64 (n+d)))∧w'=w.setCell a (.int .i64 (wrap64 (n+d))):=by
 have hl:=run_call_add (P:=Tryz.prog) Tryz.func54 (by kernel_rfl) (by kernel_rfl) (by kernel_rfl) .i64 (by kernel_rfl) (y:=d) (s:=wrap64 (n+d)) hc hz (by simp[go_sem,wrap64,IntKind.wrap_i64])
 go_enter Tryz.func29,Tryz.ntmps29
 go_wp2
 go_ret
 exact⟨rfl,rfl⟩
theorem has_any {w:World}{base g:Nat}{v:Value}{vs:List Value}{L:List (List Int)}(h:Hp 37 C46 w base g v vs L)(k n:Int):Calls Tryz.prog 55 #[.pointer (some ⟨g,0,none⟩),.agg #[.int .i64 k,.int .i64 n]] w (BP (hasB L k n) w):=by
 obtain⟨A,c,rfl⟩:=h.slice
 have hb0:=heap1 w (.cells #[.int .i64 k,.int .i64 n] 43)
 have hX:=Bx.new w 43 [.int .i64 k,.int .i64 n]
 have hG:=h.bx.below hb0 h.bx.lt
 have HB0:=Lib.hid hb0
 have hfew:=h.few
 obtain⟨W0,hW0⟩:∃W0,w.alloc (.cells #[.int .i64 k,.int .i64 n] 43)=W0:=⟨_,rfl⟩
 rw[show(w.alloc (.cells [Value.int .i64 k,.int .i64 n].toArray 43))=W0 from hW0]at hX
 rw[hW0]at hG HB0
 have s0:=cell_regrown ((hX.cell 0).trans rfl)
 have s1:=cell_regrown ((hX.cell 1).trans rfl)
 have s2:=cell_regrown ((hG.cell 0).trans rfl)
 clear hb0 hX hG h
 generalize hm:L.length=m at *
 unfold hasB
 rw[hm]
 clear hm
 cases h1:decide (k=3)
 ·have k1:(k==3)=false:=by rw[← h1];rfl
  clear h1
  go_enter Tryz.func55,Tryz.ntmps55
  go_upto_region 1 with(fail)
  refine wp_region_quiet_below (by kernel_rfl) (by kernel_rfl) ?_
  repeat (first|go_big_quiet_step (first|fail))
  refine wpQuiet_nil ?_
  intro _ hw'
  obtain⟨⟨dq,osq⟩,hw''⟩:=hw'
  subst hw''
  have hbq:=below_regrown W0 dq osq
  generalize grow (redrawn W0 dq) osq=w9 at *
  go_wp2
  go_ret
  exact⟨rfl,bt HB0.out hbq⟩
 ·have k1:(k==3)=true:=by rw[← h1];rfl
  clear h1
  cases h2:decide (1≤n)
  ·go_enter Tryz.func55,Tryz.ntmps55
   go_upto_region 1 with(fail)
   refine wp_region_quiet_below (by kernel_rfl) (by kernel_rfl) ?_
   repeat (first|go_big_quiet_step (first|fail))
   refine wpQuiet_nil ?_
   intro _ hw'
   obtain⟨⟨dq,osq⟩,hw''⟩:=hw'
   subst hw''
   have hbq:=below_regrown W0 dq osq
   generalize grow (redrawn W0 dq) osq=w9 at *
   go_wp2
   go_ret
   exact⟨rfl,bt HB0.out hbq⟩
  ·cases h3:decide (n≤(m:Int)) <;>
   ·go_enter Tryz.func55,Tryz.ntmps55
    go_upto_region 1 with(fail)
    refine wp_region_quiet_below (by kernel_rfl) (by kernel_rfl) ?_
    repeat (first|go_big_quiet_step (first|fail))
    refine wpQuiet_nil ?_
    intro _ hw'
    obtain⟨⟨dq,osq⟩,hw''⟩:=hw'
    subst hw''
    have hbq:=below_regrown W0 dq osq
    generalize grow (redrawn W0 dq) osq=w9 at *
    go_wp2
    go_ret
    exact⟨rfl,bt HB0.out hbq⟩
theorem rhas_any {w:World}{base g:Nat}{v:Value}{vs:List Value}{L:List (List Int)}(h:Hp 40 C49 w base g v vs L)(k n:Int):Calls Tryz.prog 56 #[.pointer (some ⟨g,0,none⟩),.agg #[.int .i64 k,.int .i64 n]] w (BP (hasB L k n) w):=by
 obtain⟨A,c,rfl⟩:=h.slice
 have hb0:=heap1 w (.cells #[.int .i64 k,.int .i64 n] 49)
 have hX:=Bx.new w 49 [.int .i64 k,.int .i64 n]
 have hG:=h.bx.below hb0 h.bx.lt
 have HB0:=Lib.hid hb0
 have hfew:=h.few
 obtain⟨W0,hW0⟩:∃W0,w.alloc (.cells #[.int .i64 k,.int .i64 n] 49)=W0:=⟨_,rfl⟩
 rw[show(w.alloc (.cells [Value.int .i64 k,.int .i64 n].toArray 49))=W0 from hW0]at hX
 rw[hW0]at hG HB0
 have s0:=cell_regrown ((hX.cell 0).trans rfl)
 have s1:=cell_regrown ((hX.cell 1).trans rfl)
 have s2:=cell_regrown ((hG.cell 0).trans rfl)
 clear hb0 hX hG h
 generalize hm:L.length=m at *
 unfold hasB
 rw[hm]
 clear hm
 cases h1:decide (k=3)
 ·have k1:(k==3)=false:=by rw[← h1];rfl
  clear h1
  go_enter Tryz.func56,Tryz.ntmps56
  go_upto_region 1 with(fail)
  refine wp_region_quiet_below (by kernel_rfl) (by kernel_rfl) ?_
  repeat (first|go_big_quiet_step (first|fail))
  refine wpQuiet_nil ?_
  intro _ hw'
  obtain⟨⟨dq,osq⟩,hw''⟩:=hw'
  subst hw''
  have hbq:=below_regrown W0 dq osq
  generalize grow (redrawn W0 dq) osq=w9 at *
  go_wp2
  go_ret
  exact⟨rfl,bt HB0.out hbq⟩
 ·have k1:(k==3)=true:=by rw[← h1];rfl
  clear h1
  cases h2:decide (1≤n)
  ·go_enter Tryz.func56,Tryz.ntmps56
   go_upto_region 1 with(fail)
   refine wp_region_quiet_below (by kernel_rfl) (by kernel_rfl) ?_
   repeat (first|go_big_quiet_step (first|fail))
   refine wpQuiet_nil ?_
   intro _ hw'
   obtain⟨⟨dq,osq⟩,hw''⟩:=hw'
   subst hw''
   have hbq:=below_regrown W0 dq osq
   generalize grow (redrawn W0 dq) osq=w9 at *
   go_wp2
   go_ret
   exact⟨rfl,bt HB0.out hbq⟩
  ·cases h3:decide (n≤(m:Int)) <;>
   ·go_enter Tryz.func56,Tryz.ntmps56
    go_upto_region 1 with(fail)
    refine wp_region_quiet_below (by kernel_rfl) (by kernel_rfl) ?_
    repeat (first|go_big_quiet_step (first|fail))
    refine wpQuiet_nil ?_
    intro _ hw'
    obtain⟨⟨dq,osq⟩,hw''⟩:=hw'
    subst hw''
    have hbq:=below_regrown W0 dq osq
    generalize grow (redrawn W0 dq) osq=w9 at *
    go_wp2
    go_ret
    exact⟨rfl,bt HB0.out hbq⟩
end Go.Proofs.YtignojhijmamhaaGreat.Va
namespace Go.Proofs.YtignojhijmamhaaGreat.Va
open Go Go.RowKit Go.Sort
theorem wrap_pred (i:Nat)(h:i<4000000):IntKind.i64.wrap ((i:Int)+1-1)=(i:Int):=IntWalk.i64_in _ (by omega) |>.trans (by omega)
set_option maxRecDepth 100000 in
theorem len_any {w:World}{base g:Nat}{v:Value}{vs:List Value}{L:List (List Int)}(h:Hp 37 C46 w base g v vs L)(k n:Int):Calls Tryz.prog 67 #[.pointer (some ⟨g,0,none⟩),.agg #[.int .i64 k,.int .i64 n]] w (IP (lenH L k n) w):=by
 have hb0:=heap1 w (.cells #[.int .i64 k,.int .i64 n] 43)
 have hX:=Bx.new w 43 [.int .i64 k,.int .i64 n]
 have HG:=Lib.hid (h.below hb0)
 have HB0:=Lib.hid hb0
 have hfew:=h.few
 obtain⟨W0,hW0⟩:∃W0,w.alloc (.cells #[.int .i64 k,.int .i64 n] 43)=W0:=⟨_,rfl⟩
 rw[show(w.alloc (.cells [Value.int .i64 k,.int .i64 n].toArray 43))=W0 from hW0]at hX
 rw[hW0]at HG HB0
 have HX:=Lib.hid hX
 have x0:=(hX.cell 0).trans rfl
 have x1:=(hX.cell 1).trans rfl
 clear hX hb0 h
 have HH:=Lib.hid (has_any HG.out k n)
 unfold lenH
 cases hb:hasB L k n
 ·rw[hb]at HH
  show Calls _ _ _ _ (IP 0 w)
  clear hb
  go_enter Tryz.func67,Tryz.ntmps67
  go_wp2_with (go_at_call 55;refine HH.out.mono ?_;rintro e w1 ⟨rfl,hb1⟩)
  go_ret
  exact⟨rfl,bt HB0.out hb1⟩
 ·rw[hb]at HH
  obtain⟨i,rfl,hi,hr⟩:=has_at hb
  rw[hr]
  clear hr
  show Calls _ _ _ _ (IP (L[i].length:Int) w)
  have HW:=Lib.hid (wrap_pred i (by omega))
  have HI:=Lib.hid hi
  clear hb
  go_enter Tryz.func67,Tryz.ntmps67
  go_wp2_with (go_at_call 55;refine HH.out.mono ?_;rintro e w1 ⟨rfl,hb1⟩)
  have hG1:=HG.out.below hb1
  obtain⟨b,c,e1,hbl,A,d,hc,-⟩:=hG1.row HI.out
  have hg0:=(hG1.bx.cell 0).trans rfl
  rw[e1]at hg0
  have hX1:=HX.out.below hb1 HX.out.lt
  have s0:=cell_regrown hg0
  have s1:=cell_regrown ((hX1.cell 1).trans rfl)
  have s2:=cell_regrown hc
  have hiz:(i:Int)<(L.length:Int):=by have:=HI.out;omega
  have HB1:=Lib.hid (bt HB0.out hb1)
  clear hg0 hX1 hc hb1 hG1 e1 x0 x1
  have hw:=HW.out
  go_upto_region 3 with(fail)
  refine wp_region_quiet_below (by kernel_rfl) (by kernel_rfl) ?_
  repeat (first|go_big_quiet_step (first|fail))
  refine wpQuiet_nil ?_
  intro _ hw'
  obtain⟨⟨dq,osq⟩,hw''⟩:=hw'
  subst hw''
  have hbq:=below_regrown w1 dq osq
  generalize grow (redrawn w1 dq) osq=w9 at *
  have HE:=Lib.hid (bt HB1.out hbq)
  clear hbq s0 s1 s2 hw
  go_wp2
  go_ret
  exact⟨rfl,HE.out⟩
set_option maxRecDepth 100000 in
theorem rlen_any {w:World}{base g:Nat}{v:Value}{vs:List Value}{L:List (List Int)}(h:Hp 40 C49 w base g v vs L)(k n:Int):Calls Tryz.prog 44 #[.pointer (some ⟨g,0,none⟩),.agg #[.int .i64 k,.int .i64 n]] w (IP (lenH L k n) w):=by
 have hb0:=heap1 w (.cells #[.int .i64 k,.int .i64 n] 49)
 have hX:=Bx.new w 49 [.int .i64 k,.int .i64 n]
 have HG:=Lib.hid (h.below hb0)
 have HB0:=Lib.hid hb0
 have hfew:=h.few
 obtain⟨W0,hW0⟩:∃W0,w.alloc (.cells #[.int .i64 k,.int .i64 n] 49)=W0:=⟨_,rfl⟩
 rw[show(w.alloc (.cells [Value.int .i64 k,.int .i64 n].toArray 49))=W0 from hW0]at hX
 rw[hW0]at HG HB0
 have HX:=Lib.hid hX
 have x0:=(hX.cell 0).trans rfl
 have x1:=(hX.cell 1).trans rfl
 clear hX hb0 h
 have HH:=Lib.hid (rhas_any HG.out k n)
 unfold lenH
 cases hb:hasB L k n
 ·rw[hb]at HH
  show Calls _ _ _ _ (IP 0 w)
  clear hb
  go_enter Tryz.func44,Tryz.ntmps44
  go_wp2_with (go_at_call 56;refine HH.out.mono ?_;rintro e w1 ⟨rfl,hb1⟩)
  go_ret
  exact⟨rfl,bt HB0.out hb1⟩
 ·rw[hb]at HH
  obtain⟨i,rfl,hi,hr⟩:=has_at hb
  rw[hr]
  clear hr
  show Calls _ _ _ _ (IP (L[i].length:Int) w)
  have HW:=Lib.hid (wrap_pred i (by omega))
  have HI:=Lib.hid hi
  clear hb
  go_enter Tryz.func44,Tryz.ntmps44
  go_wp2_with (go_at_call 56;refine HH.out.mono ?_;rintro e w1 ⟨rfl,hb1⟩)
  have hG1:=HG.out.below hb1
  obtain⟨b,c,e1,hbl,A,d,hc,-⟩:=hG1.row HI.out
  have hg0:=(hG1.bx.cell 0).trans rfl
  rw[e1]at hg0
  have hX1:=HX.out.below hb1 HX.out.lt
  have s0:=cell_regrown hg0
  have s1:=cell_regrown ((hX1.cell 1).trans rfl)
  have s2:=cell_regrown hc
  have hiz:(i:Int)<(L.length:Int):=by have:=HI.out;omega
  have HB1:=Lib.hid (bt HB0.out hb1)
  clear hg0 hX1 hc hb1 hG1 e1 x0 x1
  have hw:=HW.out
  go_upto_region 3 with(fail)
  refine wp_region_quiet_below (by kernel_rfl) (by kernel_rfl) ?_
  repeat (first|go_big_quiet_step (first|fail))
  refine wpQuiet_nil ?_
  intro _ hw'
  obtain⟨⟨dq,osq⟩,hw''⟩:=hw'
  subst hw''
  have hbq:=below_regrown w1 dq osq
  generalize grow (redrawn w1 dq) osq=w9 at *
  have HE:=Lib.hid (bt HB1.out hbq)
  clear hbq s0 s1 s2 hw
  go_wp2
  go_ret
  exact⟨rfl,HE.out⟩
end Go.Proofs.YtignojhijmamhaaGreat.Va
namespace Go.Proofs.YtignojhijmamhaaGreat.Va
open Go Go.RowKit Go.Sort
def Kc (C:List (List Int)→List Value):Prop:=∀L L',cellsL L'=cellsL L→C L'=C L
theorem k46:Kc C46:=fun L L' h=>by unfold C46;rw[h]
theorem k49:Kc C49:=fun _ _ _=>rfl
section
variable {T:TypeId} {C:List (List Int)→List Value} {w w':World} {base g:Nat} {v:Value} {vs:List Value} {L:List (List Int)}
theorem Hp.at_ (h:Hp T C w base g v vs L){i:Nat}(hi:i<L.length){q:Nat}(hq:q<L[i].length) :
  ∃b c r d,v = .slice (some ⟨b,0,none⟩) L.length c∧b<w.heap.size∧vs[i]?=some (.slice (some ⟨r,0,none⟩) L[i].length d)∧w.cell? ⟨b,i,none⟩=some (.slice (some ⟨r,0,none⟩) L[i].length d)∧r<w.heap.size∧w.cell? ⟨r,q,none⟩=some (.int .i64 L[i][q])∧w.frozen? ⟨r,q,none⟩=false:=by
 have hiv:i<vs.length:=by rw[h.ar.len];exact hi
 have ho:=h.ar.own
 have hr:=h.ar.row i hiv hi
 rcases ho.2 with⟨_,e2⟩ |⟨b,c,cur,e1,hb,hg,_⟩
 ·omega
 ·rcases hr.2 with⟨e3,e4⟩ |⟨r,d,cur2,e3,_,hg2,_⟩
  ·omega
  ·rw[e1]at ho
   have hc:=ho.cellAt i (by omega)
   rw[List.getElem?_eq_getElem hiv,e3]at hc
   rw[e3]at hr
   refine⟨b,c,r,d,e1,(Array.getElem?_eq_some_iff.1 hg).1,by rw[List.getElem?_eq_getElem hiv,e3],hc,(Array.getElem?_eq_some_iff.1 hg2).1,?_,hr.frozenAt q⟩
   rw[hr.cellAt q (by omega)]
   exact ints_get hq
theorem own_set_self {base r n d:Nat}{xs:List Value}{w:World}(h:w.ownsRow base 3 1 (.slice (some ⟨r,0,none⟩) n d) n xs)(q:Nat)(u:Value):(w.setCell ⟨r,q,none⟩ u).ownsRow base 3 1 (.slice (some ⟨r,0,none⟩) n d) n (xs.set q u):=(h.stored q u).1
theorem fr_set (F:Nat→Prop)(w:World){p:Addr}(hp:F p.block)(u:Value):Fr F w (w.setCell p u):=
 ⟨rfl,rfl,rfl,by simp,fun b _ hn=>Below.heap_setCell w p u b (fun e=>hn (by rw[e];exact hp))⟩
theorem Hp.set_ (h:Hp T C w base g v vs L)(hC:Kc C)(hT:T≠3){i:Nat}(hi:i<L.length){q:Nat}{r d:Nat}(hv:vs[i]?=some (.slice (some ⟨r,0,none⟩) L[i].length d))(x:Int) :
  Hp T C (w.setCell ⟨r,q,none⟩ (.int .i64 x)) base g v vs (L.set i (L[i].set q x))∧Fr (Fp g v vs) w (w.setCell ⟨r,q,none⟩ (.int .i64 x)):=by
 have hiv:i<vs.length:=by rw[h.ar.len];exact hi
 have hve:vs[i] = .slice (some ⟨r,0,none⟩) L[i].length d:=by rw[List.getElem?_eq_getElem hiv]at hv;exact Option.some.inj hv
 have hob:vs[i].ownBlock=some r:=by rw[hve];rfl
 have hrow:=h.ar.row i hiv hi
 have hcell:cellsL (L.set i (L[i].set q x))=cellsL L:=cells_set _ _ _ fun _=>by rw[List.length_set]
 have F1:Fr (fun b=>b=r) w (w.setCell ⟨r,q,none⟩ (.int .i64 x)):=fr_set (fun b=>b=r) w (p:=⟨r,q,none⟩) rfl _
 refine⟨⟨?_,⟨by rw[h.ar.len,List.length_set],?_,?_,h.ar.ne⟩,by rw[hcell];exact h.cap,h.ge⟩,F1.mono fun b hb =>.inr (.inr ⟨_,List.getElem_mem hiv,by rw[hb];exact hob⟩)⟩
 ·rw[hC _ _ hcell]
  exact h.bx.fr F1 (fun e=>own_bx_ne hrow h.bx (fun e=>hT e.symm) (by rw[e];exact hob))
 ·rw[List.length_set]
  exact own_fr h.ar.own F1 (fun b hb e=>own_ne h.ar.own hrow (by decide) hb (by rw[e];exact hob))
 ·intro j hj hl
  have hl2:j<L.length:=by rw[← h.ar.len];exact hj
  by_cases e:i=j
  ·subst e
   rw[List.getElem_set_self,List.length_set]
   have h2:=own_set_self (show w.ownsRow base 3 1 (.slice (some ⟨r,0,none⟩) L[i].length d) L[i].length (ints L[i])by rw[← hve];exact hrow) q (.int .i64 x)
   rw[hve,← ints_set]
   exact h2
  ·rw[List.getElem_set_ne e]
   exact own_fr (h.ar.row j hj hl2) F1 (fun b hb e2=>h.ar.ne j i hj hiv (fun e3=>e e3.symm) b hb (by rw[e2];exact hob))
theorem Ars.more (h:Ars w base v vs L){w2:World}{l:List Int}{x v':Value}(k:Fr (fun b=>v.ownBlock=some b) w w2)(hx:w2.ownsRow base 3 1 x l.length (ints l))(hnew:∀b,x.ownBlock=some b→w.heap.size≤b)
  (hown:w2.ownsRow base 64 1 v' (L.length+1) (vs++[x])):Ars w2 base v' (vs++[x]) (L++[l]):=by
 have hold:∀i (hi:i<vs.length),∀b,vs[i].ownBlock=some b→b<w.heap.size:=fun i hi b hb=>own_lt (h.row i hi (by rw[← h.len];exact hi)) hb
 refine⟨by simp[h.len],by rw[List.length_append];exact hown,fun i hi hl =>?_,fun i j hi hj hne b hb =>?_⟩
 ·by_cases e:i<vs.length
  ·have hl2:i<L.length:=by rw[← h.len];exact e
   rw[List.getElem_append_left e,List.getElem_append_left hl2]
   exact own_fr (h.row i e hl2) k (fun b hb hv=>own_ne h.own (h.row i e hl2) (by decide) hv hb)
  ·have e1:i=vs.length:=by rw[List.length_append]at hi;simp at hi;omega
   have e2:i=L.length:=by rw[e1,h.len]
   subst e1
   rw[List.getElem_append_right (Nat.le_refl _)]
   simp only[Nat.sub_self,List.getElem_cons_zero]
   rw[List.getElem_append_right (by omega)]
   simp only[h.len,Nat.sub_self,List.getElem_cons_zero]
   exact hx
 ·by_cases ei:i<vs.length
  ·rw[List.getElem_append_left ei]at hb
   by_cases ej:j<vs.length
   ·rw[List.getElem_append_left ej]
    exact h.ne i j ei ej hne b hb
   ·rw[List.getElem_append_right (by omega)]
    simp only[show j-vs.length=0 by rw[List.length_append]at hj;simp at hj;omega,List.getElem_cons_zero]
    intro hx2
    have:=hnew b hx2
    have:=hold i ei b hb
    omega
  ·rw[List.getElem_append_right (by omega)]at hb
   simp only[show i-vs.length=0 by rw[List.length_append]at hi;simp at hi;omega,List.getElem_cons_zero]at hb
   have ej:j<vs.length:=by rw[List.length_append]at hi hj;simp at hi hj;omega
   rw[List.getElem_append_left ej]
   intro hx2
   have:=hnew b hb
   have:=hold j ej b hx2
   omega
end
end Go.Proofs.YtignojhijmamhaaGreat.Va
