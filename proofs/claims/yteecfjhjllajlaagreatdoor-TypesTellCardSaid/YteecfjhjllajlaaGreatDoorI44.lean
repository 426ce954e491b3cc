/- PROVED: Csh Ea Eb Ed Ee Ef Eg. No more condition. -/
import Derived.Shelf.Sort.Plain
import Derived.Shelf.Slices.CompactS
import Derived.Shelf.Slices.Cells
import Derived.Shelf.Slices.In.SortNone
import Derived.Shelf.Slices.Empties2
import Derived.Sort.OwnSorted
import Derived.Test.YteecfjhjllajlaaGreatDoorI42
set_option maxHeartbeats 4000000
set_option maxRecDepth 100000
namespace Go.Proofs
section
open Go.Shelf
def Tryz.lays190_ren:Go.Shelf.Ren:=⟨λ|190=>96 |125=>158 |258=>157 |128=>233 |129=>234 |302=>224 |303=>225 |304=>226 |305=>227 |306=>228 |307=>229 |308=>230 |309=>231 |310=>232 |333=>258 |329=>259 |330=>260 |334=>261 |335=>262 |336=>263 |344=>295 |n=>n,λ|31=>40 |9=>9 |3=>3 |46=>149 |0=>0 |51=>186 |53=>188 |4=>4 |183=>180 |182=>179 |131=>145 |5=>5 |218=>197 |222=>201 |228=>215 |229=>216 |n=>n,λ|n=>n⟩
theorem Tryz.lays190:Go.Proofs.Lays.n190 Tryz.prog Tryz.lays190_ren := {
 mixed:=by kernel_rfl
 f125:=Tryz.func158.trans (congrArg some (by kernel_rfl))
 f128:=Tryz.func233.trans (congrArg some (by kernel_rfl))
 f129:=Tryz.func234.trans (congrArg some (by kernel_rfl))
 f190:=Tryz.func96.trans (congrArg some (by kernel_rfl))
 f258:=Tryz.func157.trans (congrArg some (by kernel_rfl))
 f302:=Tryz.func224.trans (congrArg some (by kernel_rfl))
 f303:=Tryz.func225.trans (congrArg some (by kernel_rfl))
 f304:=Tryz.func226.trans (congrArg some (by kernel_rfl))
 f305:=Tryz.func227.trans (congrArg some (by kernel_rfl))
 f306:=Tryz.func228.trans (congrArg some (by kernel_rfl))
 f307:=Tryz.func229.trans (congrArg some (by kernel_rfl))
 f308:=Tryz.func230.trans (congrArg some (by kernel_rfl))
 f309:=Tryz.func231.trans (congrArg some (by kernel_rfl))
 f310:=Tryz.func232.trans (congrArg some (by kernel_rfl))
 f329:=Tryz.func259.trans (congrArg some (by kernel_rfl))
 f330:=Tryz.func260.trans (congrArg some (by kernel_rfl))
 f333:=Tryz.func258.trans (congrArg some (by kernel_rfl))
 f334:=Tryz.func261.trans (congrArg some (by kernel_rfl))
 f335:=Tryz.func262.trans (congrArg some (by kernel_rfl))
 f336:=Tryz.func263.trans (congrArg some (by kernel_rfl))
 f344:=Tryz.func295.trans (congrArg some (by kernel_rfl))
 t0:=Tryz.underlying0
 a0:=Tryz.isAgg0
 z0:=Tryz.sizeOf0
 v0:=Tryz.zeroValue0
 t3:=Tryz.underlying3
 a3:=Tryz.isAgg3
 z3:=Tryz.sizeOf3
 v3:=Tryz.zeroValue3
 t4:=Tryz.underlying4
 a4:=Tryz.isAgg4
 z4:=Tryz.sizeOf4
 v4:=Tryz.zeroValue4
 t5:=Tryz.underlying5
 a5:=Tryz.isAgg5
 z5:=Tryz.sizeOf5
 v5:=Tryz.zeroValue5
 t9:=Tryz.underlying9
 a9:=Tryz.isAgg9
 z9:=Tryz.sizeOf9
 v9:=Tryz.zeroValue9
 t31:=Tryz.underlying40
 a31:=Tryz.isAgg40
 z31:=Tryz.sizeOf40
 v31:=Tryz.zeroValue40
 t46:=Tryz.underlying149
 a46:=Tryz.isAgg149
 z46:=Tryz.sizeOf149
 v46:=Tryz.zeroValue149
 t51:=Tryz.underlying186
 a51:=Tryz.isAgg186
 z51:=Tryz.sizeOf186
 v51:=Tryz.zeroValue186
 t53:=Tryz.underlying188
 a53:=Tryz.isAgg188
 z53:=Tryz.sizeOf188
 v53:=Tryz.zeroValue188
 t131:=Tryz.underlying145
 a131:=Tryz.isAgg145
 z131:=Tryz.sizeOf145
 v131:=Tryz.zeroValue145
 t182:=Tryz.underlying179
 a182:=Tryz.isAgg179
 z182:=Tryz.sizeOf179
 v182:=Tryz.zeroValue179
 t183:=Tryz.underlying180
 a183:=Tryz.isAgg180
 z183:=Tryz.sizeOf180
 v183:=Tryz.zeroValue180
 t218:=Tryz.underlying197
 a218:=Tryz.isAgg197
 z218:=Tryz.sizeOf197
 v218:=Tryz.zeroValue197
 t222:=Tryz.underlying201
 a222:=Tryz.isAgg201
 z222:=Tryz.sizeOf201
 v222:=Tryz.zeroValue201
 t228:=Tryz.underlying215
 a228:=Tryz.isAgg215
 z228:=Tryz.sizeOf215
 v228:=Tryz.zeroValue215
 t229:=Tryz.underlying216
 a229:=Tryz.isAgg216
 z229:=Tryz.sizeOf216
 v229:=Tryz.zeroValue216 }
open Go.Sort Go.RowKit in
theorem Tryz.slices_Sort_string (blk off cap:Nat)(ss:List (List UInt8))(w:World)(hH:Holds encStr w blk off ss.toArray)(hblk:blk<w.heap.size)(hsz:ss.length<4611686018427387904) :
  Calls Tryz.prog 96 #[.slice (some ⟨blk,off,none⟩) ss.length cap] w λe w'=>
   e = .returned (.tuple #[])∧∃n os,w'=grow (putRow encStr (Sort.ahead w n) blk off (ss.mergeSort λx y=>decide (x≤y)).toArray) os:=Any.slices_Sort_string Tryz.lays190 blk off cap ss w hH hblk hsz
def Tryz.lays194_ren:Go.Shelf.Ren:=⟨λ|194=>97 |n=>n,λ|31=>40 |9=>9 |3=>3 |4=>4 |0=>0 |n=>n,λ|n=>n⟩
theorem Tryz.lays194:Go.Proofs.Lays.n194 Tryz.prog Tryz.lays194_ren := {
 mixed:=by kernel_rfl
 f194:=Tryz.func97.trans (congrArg some (by kernel_rfl))
 t0:=Tryz.underlying0
 a0:=Tryz.isAgg0
 z0:=Tryz.sizeOf0
 v0:=Tryz.zeroValue0
 t3:=Tryz.underlying3
 a3:=Tryz.isAgg3
 z3:=Tryz.sizeOf3
 v3:=Tryz.zeroValue3
 t4:=Tryz.underlying4
 a4:=Tryz.isAgg4
 z4:=Tryz.sizeOf4
 v4:=Tryz.zeroValue4
 t9:=Tryz.underlying9
 a9:=Tryz.isAgg9
 z9:=Tryz.sizeOf9
 v9:=Tryz.zeroValue9
 t31:=Tryz.underlying40
 a31:=Tryz.isAgg40
 z31:=Tryz.sizeOf40
 v31:=Tryz.zeroValue40 }
open Go.RowKit Go.Lib Go.Sort in
theorem Tryz.slices_Compact_string (blk off cap:Nat)(zs:List (List UInt8))(w:World)(hH:Holds encStr w blk off zs.toArray)(hsz:zs.length≤9223372036854775807)(hcap:zs.length≤cap) :
  Calls Tryz.prog 97 #[.slice (some ⟨blk,off,none⟩) zs.length cap] w λe w'=>e = .returned (.slice (some ⟨blk,off,none⟩) (Lib.compact zs).length cap)∧∃q,w'=putRow encStr (Sort.ahead w q) blk off (Lib.compact zs++List.replicate (zs.length-(Lib.compact zs).length) []).toArray:=Any.slices_Compact_string Tryz.lays194 blk off cap zs w hH hsz hcap
open Go.RowKit Go.Lib Go.Sort in
theorem Tryz.slices_Compact_string_empty (a:Option Addr)(cap:Nat)(w:World) :
  Calls Tryz.prog 97 #[.slice a 0 cap] w λe w'=>e = .returned (.slice a 0 cap)∧w'=w:=Any.slices_Compact_string_empty Tryz.lays194 a cap w
open Go.RowKit Go.Sort in
theorem Tryz.slices_Sort_string_none (p:Option Addr)(cap:Nat)(w:World) :
  Calls Tryz.prog 96 #[.slice p 0 cap] w λe w'=>e = .returned (.tuple #[])∧w'=w:=Any.slices_Sort_string_none Tryz.lays190 p cap w
end
end Go.Proofs
namespace Go.Proofs.YteecfjhjllajlaaGreatDoor
section
open Go Go.RowKit Go.Sort
open Tr (Bx heap1 bt Nds Ints VPost BPost rgB)
def chn (l:List Tr.Nd):List (List UInt8):=(l.filter λx=>decide (x.kd=18)).map λx=>x.tx.data.toList
def srtL (ss:List (List UInt8)):List (List UInt8):=ss.mergeSort λx y=>decide (x≤y)
def chL (l:List Tr.Nd):List (List UInt8):=Lib.compact (srtL (chn l))
theorem chn_step {l:List Tr.Nd}{j:Nat}(h:j<l.length):chn (l.take (j+1))=chn (l.take j)++(if l[j].kd=18 then [l[j].tx.data.toList] else []):=by
 unfold chn
 rw[List.take_succ_eq_append_getElem h,List.filter_append,List.map_append]
 congr 1
 by_cases e:l[j].kd=18<;>simp[e]
theorem chn_len (l:List Tr.Nd):(chn l).length≤l.length:=by unfold chn;rw[List.length_map];exact List.length_filter_le _ _
def Sts (w:World)(A:Option Addr)(ts:List (List UInt8)):Prop:=
 0<ts.length→∃b off,A=some ⟨b,off,none⟩∧b<w.heap.size∧∀j (hj:j<ts.length),w.cell? ⟨b,off+j,none⟩=some (Go.Proofs.encStr ts[j])
theorem Sts.below {w w':World}{A:Option Addr}{ts:List (List UInt8)}(h:Sts w A ts)(hb:Below w.heap.size w w'):Sts w' A ts:=λh0=>by
 obtain⟨b,off,e,hl,hc⟩:=h h0
 exact⟨b,off,e,Nat.lt_of_lt_of_le hl hb.size,λj hj=>(hb.cell (p:=⟨b,off+j,none⟩) hl).trans (hc j hj)⟩
def SsPost (ts:List (List UInt8))(w:World)(e:Ending)(w':World):Prop:=∃A c,e = .returned (.slice A ts.length c)∧Sts w' A ts∧Below w.heap.size w w'
theorem run_field83v (A O:Option Addr)(n c m co:Nat)(bd bp:Nat)(w:World):(Instr.field 83 (.agg #[.slice A n c,.slice O m co,.map (some bd),.map (some bp)]) 0).run Tryz.prog w = .ok (.slice A n c) w:=by kernel_rfl
theorem enc_tx (s:ByteArray):Go.Proofs.encStr s.data.toList = .string s:=by
 show Value.string ⟨s.data.toList.toArray⟩=_
 rw[Array.toArray_toList]
theorem grow0 (w:World):grow w #[]=w:=by simp[grow]
theorem app_str {ops:Array Oper}{rest:List Oper}{o:Oper}{a:Act}{Q:Exit→Act→World→Prop}{w:World}{base:Nat}{v:Value}{ss:List (List UInt8)}(hgd:o.guard=none)(p x:Operand)
  (ho:o.op = .call { callee :=.builtin .append,args := #[p,x],argTypes := #[40,40] }) (s:ByteArray) (h:w.ownsRow base 9 1 v ss.length (ss.map Go.Proofs.encStr)) (hbs:base≤w.heap.size) (hs:a.eval p=v)
  (hx:a.eval x = .slice (some ⟨w.heap.size,0,none⟩) 1 1) (hlen:ss.length≤900000)
  (hk:∀v' w',w'.ownsRow base 9 1 v' (ss++[s.data.toList]).length ((ss++[s.data.toList]).map Go.Proofs.encStr)→Below base w w'→wpList Tryz.prog ops Q rest (a.put o.dst v') w'):wpList Tryz.prog ops Q (o :: rest) a (w.alloc (.cells #[.string s] 9)):=by
 obtain⟨i0,hi,hz0,hz1,hz2⟩:=info_parts Tk.info9
 refine wpList_plain hgd λK hK =>?_
 refine wp_append_own2 (w.alloc (.cells #[.string s] 9)) p x 40 ho base 9 i0 (.string ⟨#[]⟩) 1 16 Tryz.underlying40 hi hz0 hz1 hz2 rfl (by decide) v ss.length (ss.map Go.Proofs.encStr) hs (h.kept (row:=none) (World.grownBy_alloc _ _ _) (Classical.em _)) ⟨w.heap.size,0,none⟩ 1 1 [.string s] hx rfl (blk_cells w [.string s] 9) ?_ (by unfold maxLen;omega) (by omega) (by rw[World.size_alloc];omega) ?_
 ·intro u hu
  rw[List.mem_singleton.1 hu];rfl
 ·intro v' w' h2 h3 h4
  have hb:Below base w (w.alloc (.cells #[.string s] 9)):=(Below.refl _ _).alloc hbs _
  refine hK _ _ (hk v' w' ?_ (hb.grown h3 (by rw[World.size_alloc];omega) (λk e=>((h.lt k e)).1)))
  rw[List.length_append,List.map_append]
  show w'.ownsRow base 9 1 v' (ss.length+1) (ss.map Go.Proofs.encStr++[Go.Proofs.encStr s.data.toList])
  rw[enc_tx]
  exact h2
theorem sorted_any {w:World}{base g cap:Nat}{ss:List (List UInt8)}(h:w.ownsRow base 9 1 (.slice (some ⟨g,0,none⟩) ss.length cap) ss.length (ss.map Go.Proofs.encStr))(hs:ss.length≤4000) :
  Calls Tryz.prog 96 #[.slice (some ⟨g,0,none⟩) ss.length cap] w λe w'=>e = .returned (.tuple #[])∧w'.ownsRow base 9 1 (.slice (some ⟨g,0,none⟩) ss.length cap) ss.length ((srtL ss).map Go.Proofs.encStr)∧(base≤w.heap.size→Below base w w'):=by
 rcases h.2 with⟨h0,_⟩ |⟨g',cap',cur,hv,hbase,hb,h1,h2,h3,h4⟩
 ·cases h0
 cases hv
 refine(Tryz.slices_Sort_string g 0 cap ss w (holds_of_block hb (by simpa using h4)) (Array.getElem?_eq_some_iff.1 hb).1 (by omega)).mono ?_
 rintro e w' ⟨rfl,n,os,rfl⟩
 refine⟨rfl,ownsRow_sorted (by simp) hbase hb h1 h2 h3,λhbs =>?_⟩
 exact(Below.refl base w).grown (grownBy_sorted _) hbs (λk e=>by cases e;exact hbase)
theorem comp_any {w:World}{base g cap:Nat}{zs:List (List UInt8)}(h:w.ownsRow base 9 1 (.slice (some ⟨g,0,none⟩) zs.length cap) zs.length (zs.map Go.Proofs.encStr))(hs:zs.length≤4000) :
  Calls Tryz.prog 97 #[.slice (some ⟨g,0,none⟩) zs.length cap] w λe w'=>e = .returned (.slice (some ⟨g,0,none⟩) (Lib.compact zs).length cap)∧Sts w' (some ⟨g,0,none⟩) (Lib.compact zs)∧(base≤w.heap.size→Below base w w'):=by
 rcases h.2 with⟨h0,_⟩ |⟨g',cap',cur,hv,hbase,hb,h1,h2,h3,h4⟩
 ·cases h0
 cases hv
 have hle:=Lib.compact_length_le zs
 refine(Tryz.slices_Compact_string g 0 cap zs w (holds_of_block hb (by simpa using h4)) (by omega) h1).mono ?_
 rintro e w' ⟨rfl,q,rfl⟩
 have ho:=ownsRow_sorted (w:=w) (n:=q) (os := #[]) (ss:=zs) (ts:=Lib.compact zs++List.replicate (zs.length-(Lib.compact zs).length) []) (by rw[List.length_append,List.length_replicate];omega) hbase hb h1 h2 h3
 have hg:=grownBy_sorted (w:=w) (g:=g) (n:=q) (os := #[]) (Lib.compact zs++List.replicate (zs.length-(Lib.compact zs).length) []).toArray
 rw[grow0]at ho hg
 refine⟨rfl,λ_=>⟨g,0,rfl,(ho.lt g rfl).2,λj hj =>?_⟩,λhbs=>(Below.refl base w).grown hg hbs (λk e=>by cases e;exact hbase)⟩
 rw[Nat.zero_add,ho.cellAt j (by omega),List.getElem?_map,List.getElem?_append_left hj,List.getElem?_eq_getElem hj]
 rfl
section
variable {w:World} {l:List Tr.Nd} {A:Option Addr} {n:Nat}
theorem channels_any (h:TT w A n l)(c:Nat)(r:Int):Calls Tryz.prog 51 #[.agg #[.slice A n c,.int .i64 r]] w (SsPost (chL (eff l r)) w):=by
 have hb0:=heap1 w (.cells #[.slice A n c,.int .i64 r] 25)
 have HB0:=Lib.hid hb0
 have HR:=Lib.hid (read_any (h.below hb0) c r)
 have HLE:=Lib.hid (show(eff l r).length≤4000 by
  cases hr:rgB l r with
  |true=>rw[eff_yes hr];exact(rtn_of hr).2.1
  |false=>rw[eff_no hr];exact Nat.zero_le _)
 clear h hb0
 generalize eff l r=L at *
 go_enter Tryz.func51,Tryz.ntmps51
 go_wp2_with (go_at_call 80;refine HR.out.mono ?_)
 rintro e w1 ⟨A1,n1,c1,O,co,bd,bp,rfl,hP,hC,hb1⟩
 unfold PrV
 have HP:=Lib.hid hP
 have HB1:=Lib.hid (bt HB0.out hb1)
 have HLN:=Lib.hid hP.len
 have hfl:=run_field83v A1 O n1 c1 n1 co bd bp
 have hn4:n1≤4000:=by rw[hP.len];exact HLE.out
 clear hP hC hb1 HR
 go_wp2
 clear hfl
 go_loopw [3,10] (λa3 i wr=>∃(j:Nat) (v3:Value),v3=a3∧j≤n1∧i = .int .i64 (j:Int)∧Below w1.heap.size w1 wr∧wr.ownsRow w1.heap.size 9 1 v3 (chn (L.take j)).length ((chn (L.take j)).map Go.Proofs.encStr)) (λ_ i _=>n1-(intOf i).toNat)
 case atStart=>exact⟨0,_,rfl,Nat.zero_le _,rfl,Below.refl _ _,World.ownsRow_nil _ _ _ _⟩
 case round=>
  obtain⟨j,v3,rfl,hj,rfl,hb,ho⟩:=hrel
  have HB:=Lib.hid hb
  have HO:=Lib.hid ho
  obtain⟨W1,rfl⟩:∃W1,W1=wr:=⟨_,rfl⟩
  by_cases hjm:j<n1
  ·have hjz:(j:Int)<(n1:Int):=by omega
   have hjl:j<L.length:=by rw[← HLN.out];exact hjm
   obtain⟨bA,off,K,cK,rfl,xt,x0,x1,x2,x3,x4,_⟩:=node_at HP.out.nds hb j hjl
   have HST:=Lib.hid (chn_step hjl)
   have HXL:=Lib.hid (show(chn (L.take j)).length≤4000 from Nat.le_trans (chn_len _) (by rw[List.length_take];omega))
   have hX:=Bx.new W1 37 [.int .i64 L[j].kd,.int .i64 L[j].n,.int .i64 L[j].pl,.string L[j].tx,.slice K L[j].ks.length cK]
   have HBW:=Lib.hid (heap1 W1 (.cells #[.int .i64 L[j].kd,.int .i64 L[j].n,.int .i64 L[j].pl,.string L[j].tx,.slice K L[j].ks.length cK] 37))
   have HOW:=Lib.hid (show(W1.alloc (.cells #[.int .i64 L[j].kd,.int .i64 L[j].n,.int .i64 L[j].pl,.string L[j].tx,.slice K L[j].ks.length cK] 37)).ownsRow w1.heap.size 9 1 v3 (chn (L.take j)).length ((chn (L.take j)).map Go.Proofs.encStr)from ho.kept (row:=none) (World.grownBy_alloc _ _ _) (Classical.em _))
   obtain⟨W2,hW2⟩:∃W2,W1.alloc (.cells #[.int .i64 L[j].kd,.int .i64 L[j].n,.int .i64 L[j].pl,.string L[j].tx,.slice K L[j].ks.length cK] 37)=W2:=⟨_,rfl⟩
   rw[hW2]at hX HBW HOW
   have e0:=(hX.cell 0).trans rfl
   have e3:=(hX.cell 3).trans rfl
   have HSZ:=Lib.hid (show w1.heap.size≤W2.heap.size from Nat.le_trans HB.out.size HBW.out.size)
   obtain⟨ss,hss⟩:∃ss,chn (L.take j)=ss:=⟨_,rfl⟩
   rw[hss]at HOW HXL HST
   clear ho hb hX hss HO
   generalize L[j].kd=kd at *
   generalize L[j].tx=tx at *
   generalize L[j].n=nn at *
   generalize L[j].pl=pl at *
   generalize L[j].ks.length=mk at *
   by_cases hk:kd=18
   ·subst hk
    rw[if_pos rfl]at HST
    go_wp2_with (at_builtin;refine app_str rfl _ _ rfl tx HOW.out HSZ.out rfl rfl (by have:=HXL.out;omega) ?_;intro v9 w9 ho9 hb9)
    have HH:=Lib.hid (And.intro ho9 (HB.out.trans ((HBW.out.mono HB.out.size).trans hb9)))
    clear ho9 hb9
    go_wp2
    go_roundw
    case rel=>exact⟨j+1,_,rfl,by omega,by go_num,HH.out.2,by rw[HST.out];exact HH.out.1⟩
    case measure=>simp[intOf];omega
   ·have hkb:(kd==18)=false:=beq_eq_false_iff_ne.2 hk
    rw[if_neg hk,List.append_nil]at HST
    clear hk
    go_wp2
    go_roundw
    case rel=>exact⟨j+1,_,rfl,by omega,by go_num,HB.out.trans (HBW.out.mono HB.out.size),by rw[HST.out];exact HOW.out⟩
    case measure=>simp[intOf];omega
  ·have hjz:¬(j:Int)<(n1:Int):=by omega
   have hall:L.take j=L:=List.take_of_length_le (by have:=HLN.out;omega)
   rw[hall]at ho HO
   have HCL:=Lib.hid (show(chn L).length≤4000 from Nat.le_trans (chn_len _) HLE.out)
   clear hall hb
   obtain⟨ss,hss⟩:∃ss,chn L=ss:=⟨_,rfl⟩
   have HCH:=Lib.hid (show chL L=Lib.compact (srtL ss)by unfold chL;rw[hss])
   rw[hss]at ho HCL
   clear hss HO
   rcases ho.2 with⟨hv,h0⟩ |⟨g,cap,cur,hv,_⟩
   ·subst hv
    have hss:ss=[]:=List.length_eq_zero_iff.1 h0
    subst hss
    have HS1:=Lib.hid (Tryz.slices_Sort_string_none none 0 W1)
    have HS2:=Lib.hid (Tryz.slices_Compact_string_empty none 0 W1)
    have HNL:=Lib.hid (show chL L=[]by rw[HCH.out];simp[srtL,Lib.compact,Lib.compactUpTo])
    clear ho h0
    go_wp2_with (first|(go_at_call 96;refine HS1.out.mono ?_;rintro e w3 ⟨rfl,rfl⟩) |(go_at_call 97;refine HS2.out.mono ?_;rintro e w4 ⟨rfl,rfl⟩))
    go_ret
    exact⟨none,0,by rw[HNL.out];rfl,by rw[HNL.out];exact λh=>absurd h (Nat.lt_irrefl 0),bt HB1.out HB.out⟩
   ·subst hv
    have HS1:=Lib.hid (sorted_any ho HCL.out)
    clear ho
    go_upto_region 8 with(fail)
    go_wp2_with (go_at_call 96;refine HS1.out.mono ?_;rintro e w3 ⟨rfl,hh3⟩;replace hh3:=Lib.hid hh3)
    have ho3:=hh3.out.1
    have hb3:=hh3.out.2
    clear hh3
    have HB3:=Lib.hid (hb3 HB.out.size)
    have hsl:(srtL ss).length=ss.length:=by simp[srtL]
    have HC:=Lib.hid (show Calls Tryz.prog 97 #[.slice (some ⟨g,0,none⟩) ss.length cap] w3 λe w'=>e = .returned (.slice (some ⟨g,0,none⟩) (Lib.compact (srtL ss)).length cap)∧Sts w' (some ⟨g,0,none⟩) (Lib.compact (srtL ss))∧(w1.heap.size≤w3.heap.size→Below w1.heap.size w3 w')from by
     have:=comp_any (zs:=srtL ss) (by rw[hsl];exact ho3) (by rw[hsl];exact HCL.out)
     rw[hsl]at this
     exact this)
    clear ho3 hb3 hsl HS1
    go_wp2_with (go_at_call 97;refine HC.out.mono ?_)
    rintro e w4 ⟨rfl,hs4,hb4⟩
    have HH:=Lib.hid (And.intro hs4 (hb4 (Nat.le_trans HB.out.size HB3.out.size)))
    clear hs4 hb4 HC
    go_wp2
    go_ret
    exact⟨some ⟨g,0,none⟩,cap,by rw[HCH.out];rfl,by rw[HCH.out];exact HH.out.1,bt HB1.out (HB.out.trans (HB3.out.trans HH.out.2))⟩
end
end
section
open Go Go.RowKit Go.Sort
open Go.Lib (keeps compactUpTo compactUpTo_succ)
theorem keep_ne {d:Array (List UInt8)}{m:Nat}(h:keeps d (m+1)=true):d[m+1]! ≠ d[m]!:=by
 unfold keeps at h
 rcases of_decide_eq_true h with h1 |h1
 ·omega
 ·exact h1
theorem keep_eq {d:Array (List UInt8)}{m:Nat}(h:¬keeps d m=true):0<m∧d[m]! = d[m-1]!:=by
 unfold keeps at h
 have h1:=of_decide_eq_false (Bool.eq_false_iff.2 h)
 refine⟨Nat.pos_of_ne_zero λe=>h1 (Or.inl e),?_⟩
 by_cases e:d[m]! = d[m-1]!
 ·exact e
 ·exact absurd (Or.inr e) h1
theorem cu_mem (d:Array (List UInt8))(x:List UInt8):∀m,x ∈ compactUpTo d m↔∃j,j<m∧d[j]! = x:=by
 intro m
 induction m with
 |zero=>
  constructor
  ·intro h;simp[compactUpTo]at h
  ·rintro⟨j,h,_⟩;omega
 |succ m ih=>
  rw[compactUpTo_succ,List.mem_append,ih]
  constructor
  ·rintro(⟨j,h,e⟩ |h)
   ·exact⟨j,by omega,e⟩
   ·by_cases hk:keeps d m=true
    ·rw[if_pos hk]at h
     exact⟨m,by omega,(List.mem_singleton.1 h).symm⟩
    ·rw[if_neg hk]at h;cases h
  ·rintro⟨j,h,e⟩
   by_cases hj:j<m
   ·exact Or.inl ⟨j,hj,e⟩
   ·obtain rfl:j=m:=by omega
    by_cases hk:keeps d j=true
    ·rw[if_pos hk];exact Or.inr (by rw[e];exact List.mem_singleton.2 rfl)
    ·obtain⟨h0,h1⟩:=keep_eq hk
     exact Or.inl ⟨j-1,by omega,by rw[← h1,e]⟩
theorem cu_up (d:Array (List UInt8))(N:Nat)(hd:∀j,j+1<N→d[j]! ≤ d[j+1]!):∀m,m≤N→(compactUpTo d m).Pairwise (· < ·)∧∀x ∈ compactUpTo d m,x≤d[m-1]!:=by
 intro m
 induction m with
 |zero=>intro _;simp[compactUpTo]
 |succ m ih=>
  intro hm
  obtain⟨h1,h2⟩:=ih (by omega)
  rw[compactUpTo_succ]
  by_cases hk:keeps d m=true
  ·rw[if_pos hk]
   cases m with
   |zero=>simp[compactUpTo]
   |succ k=>
    have hne:=keep_ne hk
    have hle:=hd k (by omega)
    have hlt:d[k]! < d[k+1]!:=by
     refine List.not_le.1 λh=>hne (List.le_antisymm h hle)
    refine⟨List.pairwise_append.2 ⟨h1,List.pairwise_singleton _ _,λa ha b hb =>?_⟩,λx hx =>?_⟩
    ·rw[List.mem_singleton.1 hb]
     exact Std.lt_of_le_of_lt (h2 a ha) hlt
    ·rcases List.mem_append.1 hx with h |h
     ·exact List.le_trans (h2 x h) hle
     ·rw[List.mem_singleton.1 h];exact List.le_refl _
  ·rw[if_neg hk,List.append_nil]
   obtain⟨h0,he⟩:=keep_eq hk
   exact⟨h1,λx hx=>by have:=h2 x hx;rw[Nat.add_sub_cancel,he];exact this⟩
theorem get_of (zs:List (List UInt8))(j:Nat)(h:j<zs.length):zs.toArray[j]! = zs[j]:=by
 rw[getElem!_pos zs.toArray j (by simpa using h)];simp
theorem comp_mem (zs:List (List UInt8))(x:List UInt8):x ∈ Lib.compact zs↔x ∈ zs:=by
 unfold Lib.compact
 rw[cu_mem,List.mem_iff_getElem]
 constructor
 ·rintro⟨j,h,e⟩;exact⟨j,h,by rw[← get_of zs j h];exact e⟩
 ·rintro⟨j,h,e⟩;exact⟨j,h,by rw[get_of zs j h];exact e⟩
theorem srt_up (ss:List (List UInt8)):(srtL ss).Pairwise λa b=>decide (a≤b)=true:=by
 refine List.pairwise_mergeSort (λa b c h1 h2 =>?_) (λa b =>?_) ss
 ·simp only[decide_eq_true_eq]at *;exact List.le_trans h1 h2
 ·simp only[Bool.or_eq_true,decide_eq_true_eq];exact List.le_total a b
theorem chl_up (l:List Tr.Nd):(chL l).Pairwise (· < ·):=by
 unfold chL Lib.compact
 refine(cu_up _ (srtL (chn l)).length (λj hj =>?_) _ (Nat.le_refl _)).1
 rw[get_of _ _ (by omega),get_of _ _ hj]
 exact of_decide_eq_true (List.pairwise_iff_getElem.1 (srt_up (chn l)) j (j+1) (by omega) hj (by omega))
theorem chl_len (l:List Tr.Nd):(chL l).length≤(chn l).length:=by
 unfold chL
 exact Nat.le_trans (Lib.compact_length_le _) (by simp[srtL])
end
section
open Go Go.RowKit Go.Sort
open Tr (Bx heap1 bt Nds Ints VPost BPost rgB)
theorem enc_ne {x y:List UInt8}{X Y:ByteArray}(hX:Go.Proofs.encStr x = .string X)(hY:Go.Proofs.encStr y = .string Y):(X.toList==Y.toList)=decide (x=y):=by
 cases hX;cases hY
 rw[Lib.toList_data,Lib.toList_data]
 show(x==y)=_
 by_cases e:x=y
 ·rw[e];simp
 ·simp[e]
theorem take_same {ts us:List (List UInt8)}{k:Nat}(h:ts.take k=us.take k)(h1:k<ts.length)(h2:k<us.length)(e:ts[k]=us[k]):ts.take (k+1)=us.take (k+1):=by
 rw[List.take_succ_eq_append_getElem h1,List.take_succ_eq_append_getElem h2,h,e]
theorem sameTexts_any {w:World}{A B:Option Addr}{ts us:List (List UInt8)}(hA:Sts w A ts)(hB:Sts w B us)(ht:ts.length≤4000)(c d:Nat):Calls Tryz.prog 50 #[.slice A ts.length c,.slice B us.length d] w (BPost (decide (ts=us)) w):=by
 have HA:=Lib.hid hA
 have HB:=Lib.hid hB
 obtain⟨m,hm⟩:∃m,ts.length=m:=⟨_,rfl⟩
 obtain⟨n,hn⟩:∃n,us.length=n:=⟨_,rfl⟩
 rw[hm,hn]
 rw[hm]at ht
 have HM:=Lib.hid hm
 have HN:=Lib.hid hn
 obtain⟨bv,hbv⟩:∃bv,decide (ts=us)=bv:=⟨_,rfl⟩
 rw[hbv]
 have HV:=Lib.hid hbv
 clear hA hB hm hn hbv
 by_cases hmn:m=n
 ·subst hmn
  have hmm:((m:Int) != (m:Int))=false:=by simp
  go_enter Tryz.func50,Tryz.ntmps50
  go_wp2
  clear hmm
  go_loopw [5] (λa5 wr=>∃k:Nat,a5 = .int .i64 (k:Int)∧k≤m∧ts.take k=us.take k∧Below w.heap.size w wr) (λa5 _=>m-(intOf a5).toNat)
  case atStart=>exact⟨0,rfl,Nat.zero_le _,rfl,Below.refl _ _⟩
  case round=>
   obtain⟨k,rfl,hk,htk,hb⟩:=hrel
   have HBB:=Lib.hid hb
   have HT:=Lib.hid htk
   clear htk
   by_cases hlt:k<m
   ·have hlz:(k:Int)<(m:Int):=by omega
    have h1:k<ts.length:=by rw[HM.out];exact hlt
    have h2:k<us.length:=by rw[HN.out];exact hlt
    obtain⟨bA,oA,rfl,hbA,hcA⟩:=(HA.out.below hb) (by omega)
    obtain⟨bB,oB,rfl,hbB,hcB⟩:=(HB.out.below hb) (by omega)
    have c0:=hcA k h1
    have c1:=hcB k h2
    obtain⟨X,hX⟩:∃X:ByteArray,Go.Proofs.encStr ts[k] = .string X:=⟨_,rfl⟩
    obtain⟨Y,hY⟩:∃Y:ByteArray,Go.Proofs.encStr us[k] = .string Y:=⟨_,rfl⟩
    rw[hX]at c0
    rw[hY]at c1
    have hne:=enc_ne hX hY
    have s0:=cell_regrown c0
    have s1:=cell_regrown c1
    have HK:=Lib.hid (And.intro hk hlt)
    by_cases e:ts[k]=us[k]
    ·rw[decide_eq_true e]at hne
     have HS:=Lib.hid (take_same HT.out h1 h2 e)
     clear hk hlt hcA hcB c0 c1 hX hY hb hbA hbB e
     go_upto_region 6 with(fail)
     refine wp_region_quiet_below (by kernel_rfl) (by kernel_rfl) ?_
     repeat (first|go_big_quiet_step (first|fail))
     refine wpQuiet_nil ?_
     intro _ hw'
     obtain⟨⟨dq,osq⟩,hw''⟩:=hw'
     subst hw''
     have hbq:=below_regrown wr dq osq
     generalize grow (redrawn wr dq) osq=w9 at *
     have HE:=Lib.hid (bt HBB.out hbq)
     clear hbq s0 s1
     go_wp2
     go_roundw
     case measure=>have:=HK.out.2;simp[intOf];omega
     case rel=>
      have:=HK.out.2
      exact⟨k+1,by go_num,by omega,HS.out,HE.out⟩
    ·rw[decide_eq_false e]at hne
     have HVF:=Lib.hid (show bv=false by rw[← HV.out];exact decide_eq_false λh=>e (by subst h;rfl))
     clear hk hlt hcA hcB c0 c1 hX hY hb hbA hbB e
     go_upto_region 6 with(fail)
     refine wp_region_quiet_below (by kernel_rfl) (by kernel_rfl) ?_
     repeat (first|go_big_quiet_step (first|fail))
     refine wpQuiet_nil ?_
     intro _ hw'
     obtain⟨⟨dq,osq⟩,hw''⟩:=hw'
     subst hw''
     have hbq:=below_regrown wr dq osq
     generalize grow (redrawn wr dq) osq=w9 at *
     have HE:=Lib.hid (bt HBB.out hbq)
     clear hbq s0 s1
     go_wp2
     go_ret
     exact⟨by rw[HVF.out];rfl,HE.out⟩
   ·have hlz:¬(k:Int)<(m:Int):=by omega
    obtain rfl:k=m:=by omega
    have HVT:=Lib.hid (show bv=true by
     rw[← HV.out]
     have h:=HT.out
     rw[List.take_of_length_le (by have:=HM.out;omega),List.take_of_length_le (by have:=HN.out;omega)]at h
     exact decide_eq_true h)
    clear hb
    go_wp2
    go_ret
    exact⟨by rw[HVT.out];rfl,HBB.out⟩
 ·have hmm:((m:Int) != (n:Int))=true:=by rw[bne,beq_eq_false_iff_ne.2 (by omega)];rfl
  have HVF:=Lib.hid (show bv=false by rw[← HV.out];exact decide_eq_false λh=>hmn (by rw[← HM.out,← HN.out,h]))
  go_enter Tryz.func50,Tryz.ntmps50
  go_wp2
  go_ret
  exact⟨by rw[HVF.out];rfl,Below.refl _ _⟩
end
section
open Go Go.RowKit Go.Sort
theorem up_nodup {xs:List (List UInt8)}(h:xs.Pairwise (· < ·)):xs.Nodup:=h.imp λ{a b} hab e=>by subst e;exact List.lt_irrefl _ hab
theorem up_ext {xs ys:List (List UInt8)}(hx:xs.Pairwise (· < ·))(hy:ys.Pairwise (· < ·))(h:∀x,x ∈ xs↔x ∈ ys):xs=ys:=by
 have hp:xs.Perm ys:=(List.perm_ext_iff_of_nodup (up_nodup hx) (up_nodup hy)).2 h
 exact List.Perm.eq_of_pairwise (le:=λa b=>a<b) (λa b _ _ h1 h2=>absurd (List.lt_trans h1 h2) (List.lt_irrefl _)) hx hy hp
def insT (os:List (List UInt8))(k:Nat)(t:List UInt8):List (List UInt8):=os.take k++[t]++os.drop k
theorem ins_mem {os:List (List UInt8)}{k:Nat}{t x:List UInt8}:x ∈ insT os k t↔x ∈ os∨x=t:=by
 unfold insT
 rw[List.mem_append,List.mem_append,List.mem_singleton]
 have e:x ∈ os↔x ∈ os.take k∨x ∈ os.drop k:=by rw[← List.mem_append,List.take_append_drop]
 rw[e]
 constructor
 ·rintro((h |h) |h)
  ·exact Or.inl (Or.inl h)
  ·exact Or.inr h
  ·exact Or.inl (Or.inr h)
 ·rintro((h |h) |h)
  ·exact Or.inl (Or.inl h)
  ·exact Or.inr h
  ·exact Or.inl (Or.inr h)
theorem ins_len {os:List (List UInt8)}{k:Nat}{t:List UInt8}(hk:k≤os.length):(insT os k t).length=os.length+1:=by
 unfold insT
 rw[List.length_append,List.length_append,List.length_take,List.length_drop,List.length_singleton];omega
theorem ins_up {os:List (List UInt8)}{k:Nat}{t:List UInt8}(h:os.Pairwise (· < ·))(h1:∀j (hj:j<os.length),j<k→os[j]<t)(h2:∀hk:k<os.length,t<os[k]):(insT os k t).Pairwise (· < ·):=by
 have hlow:∀a ∈ os.take k,a<t:=λa ha=>by
  obtain⟨j,hj,e⟩:=List.mem_iff_getElem.1 ha
  rw[List.length_take]at hj
  rw[List.getElem_take]at e
  rw[← e]
  exact h1 j (by omega) (by omega)
 have hhigh:∀b ∈ os.drop k,t<b:=λb hb=>by
  obtain⟨j,hj,e⟩:=List.mem_iff_getElem.1 hb
  rw[List.length_drop]at hj
  rw[List.getElem_drop]at e
  rw[← e]
  by_cases h0:j=0
  ·subst h0;exact h2 (by omega)
  ·exact List.lt_trans (h2 (by omega)) (List.pairwise_iff_getElem.1 h k (k+j) (by omega) (by omega) (by omega))
 unfold insT
 refine List.pairwise_append.2 ⟨List.pairwise_append.2 ⟨h.sublist (List.take_sublist _ _),List.pairwise_singleton _ _,λa ha b hb =>?_⟩,h.sublist (List.drop_sublist _ _),λa ha b hb =>?_⟩
 ·rw[List.mem_singleton.1 hb];exact hlow a ha
 ·rcases List.mem_append.1 ha with h3 |h3
  ·exact List.lt_trans (hlow a h3) (hhigh b hb)
  ·rw[List.mem_singleton.1 h3];exact hhigh b hb
theorem chn_mem (l:List Tr.Nd)(x:List UInt8):x ∈ chL l↔x ∈ chn l:=by
 unfold chL srtL
 rw[comp_mem,List.mem_mergeSort]
theorem chl_of {l:List Tr.Nd}{os:List (List UInt8)}(h:os.Pairwise (· < ·))(hm:∀x,x ∈ os↔x ∈ chn l):os=chL l:=
 up_ext h (chl_up l) λx=>(hm x).trans (chn_mem l x).symm
theorem up_gt {x t:List UInt8}(h:¬x<t)(hne:x≠t):t<x:=by
 refine List.not_le.1 λhle =>?_
 exact hne (List.le_antisymm hle (List.not_lt.1 h))
end
section
open Go Go.RowKit Go.Sort
open Tr (Bx heap1 bt Nds Ints VPost BPost rgB)
theorem amongS_any {w:World}{A:Option Addr}{n c:Nat}(xs:List ByteArray)(s:ByteArray)(hS:Strs w A xs)(hn:n=xs.length)(hn4:n≤4000):Calls Tryz.prog 98 #[.slice A n c,.string s] w (BPost (xs.any λx=>decide (x=s)) w):=by
 have HS:=Lib.hid hS
 have HN:=Lib.hid hn
 clear hS hn
 go_enter Tryz.func98,Tryz.ntmps98
 go_wp2
 go_loop [5] (λv=>∃j:Nat,v = .int .i64 (j:Int)∧j≤n∧∀x ∈ xs.take j,x≠s) (λv=>n-(intOf v).toNat)
 case atStart=>exact⟨0,rfl,Nat.zero_le _,λx hx=>by simp at hx⟩
 case round=>
  obtain⟨j,rfl,hj,hno⟩:=hrel
  have HNO:=Lib.hid hno
  clear hno
  by_cases hjn:j<n
  ·have hjz:(j:Int)<(n:Int):=by omega
   have hjx:j<xs.length:=by rw[← HN.out];exact hjn
   obtain⟨b,off,rfl,hb,hc⟩:=HS.out (by omega)
   have hcj:=hc j hjx
   clear hc hb
   by_cases e:xs[j]=s
   ·have HF:=Lib.hid (show(xs.any λx=>decide (x=s))=true from List.any_eq_true.2 ⟨xs[j],List.getElem_mem hjx,decide_eq_true e⟩)
    rw[e]at hcj
    have hse:=str_eq s
    clear e
    go_wp2
    go_ret
    exact⟨by rw[HF.out];try rfl,Below.refl _ _⟩
   ·have hse:=str_ne e
    have HF:=Lib.hid (show∀x ∈ xs.take (j+1),x≠s from λx hx=>by
     rw[List.take_succ_eq_append_getElem hjx]at hx
     rcases List.mem_append.1 hx with hx |hx
     ·exact HNO.out x hx
     ·rw[List.mem_singleton.1 hx];exact e)
    generalize xs[j]=x at *
    clear e
    go_wp2
    go_round
    case rel=>exact⟨j+1,by go_num,by omega,HF.out⟩
    case measure=>simp[intOf];omega
  ·obtain rfl:j=n:=by omega
   have hjz:¬(j:Int)<(j:Int):=by omega
   have HF:=Lib.hid (show(xs.any λx=>decide (x=s))=false from by
    have h5:=HNO.out
    rw[List.take_of_length_le (by rw[← HN.out];exact Nat.le_refl _)]at h5
    rw[List.any_eq_false]
    intro x hx
    rw[decide_eq_false (h5 x hx)];decide)
   go_wp2
   go_ret
   exact⟨by rw[HF.out];try rfl,Below.refl _ _⟩
def mkS (t:List UInt8):ByteArray:=⟨t.toArray⟩
theorem Sts.strs {w:World}{A:Option Addr}{ts:List (List UInt8)}(h:Sts w A ts):Strs w A (ts.map mkS):=λh0=>by
 rw[List.length_map]at h0
 obtain⟨b,off,e,hl,hc⟩:=h h0
 refine⟨b,off,e,hl,λj hj =>?_⟩
 rw[List.length_map]at hj
 rw[List.getElem_map]
 exact hc j hj
theorem mkS_eq {t:List UInt8}{s:ByteArray}:mkS t=s↔t=s.data.toList:=by
 constructor
 ·intro e;subst e;rfl
 ·intro e;subst e;cases s;rfl
theorem any_mem (ts:List (List UInt8))(s:ByteArray):((ts.map mkS).any λx=>decide (x=s))=decide (s.data.toList ∈ ts):=by
 rw[Bool.eq_iff_iff,List.any_eq_true,decide_eq_true_iff]
 constructor
 ·rintro⟨x,hx,e⟩
  obtain⟨t,ht,rfl⟩:=List.mem_map.1 hx
  rw[← mkS_eq.1 (of_decide_eq_true e)];exact ht
 ·intro h
  exact⟨mkS s.data.toList,List.mem_map_of_mem h,decide_eq_true (mkS_eq.2 rfl)⟩
theorem amongT_any {w:World}{A:Option Addr}{ts:List (List UInt8)}(h:Sts w A ts)(hn:ts.length≤4000)(c:Nat)(s:ByteArray):Calls Tryz.prog 98 #[.slice A ts.length c,.string s] w (BPost (decide (s.data.toList ∈ ts)) w):=by
 rw[← any_mem]
 exact amongS_any (ts.map mkS) s h.strs (by rw[List.length_map]) hn
end
section
open Go Go.RowKit Go.Sort
open Tr (Bx heap1 bt Nds Ints VPost BPost rgB)
theorem info9e:(Tryz.prog.info? 9).map (λi=>(i.zero,i.size,i.bytes))=some (some (.string ⟨#[]⟩),1,16):=by kernel_rfl
def encs (ts:List (List UInt8)):List Value:=ts.map Go.Proofs.encStr
theorem encs_len (ts:List (List UInt8)):(encs ts).length=ts.length:=List.length_map _
theorem encs_one (ts:List (List UInt8)):∀u ∈ encs ts,u.oneCell'=true:=λu hu=>by
 obtain⟨x,_,rfl⟩:=List.mem_map.1 hu
 rfl
def Src (w:World)(A:Option Addr)(m c:Nat)(news:List Value):Prop:=news.length=m∧(A=none→m=0∧c=0)∧∀ad,A=some ad→ad.block<w.heap.size∧∀j u,news[j]?=some u→w.cell? (ad.add j)=some u
theorem blk_add (a:Addr)(n:Nat):(a.add n).block=a.block:=by unfold Addr.add;split<;>rfl
theorem add_add (a:Addr)(i j:Nat):(a.add i).add j=a.add (i+j):=by
 unfold Addr.add
 by_cases hi:i=0<;>by_cases hj:j=0<;>simp[hi,hj,Nat.add_assoc]
theorem Src.below {w w':World}{A:Option Addr}{m c:Nat}{news:List Value}(h:Src w A m c news)(hb:Below w.heap.size w w'):Src w' A m c news:=
 ⟨h.1,h.2.1,λad e=>⟨Nat.lt_of_lt_of_le (h.2.2 ad e).1 hb.size,λj u hu=>(hb.cell (p:=ad.add j) (by rw[blk_add];exact(h.2.2 ad e).1)).trans ((h.2.2 ad e).2 j u hu)⟩⟩
section
variable {K:Act→World→Prop} {Q:Exit→Act→World→Prop} {a:Act} {w:World} {o:Oper}
theorem app_wp (s x:Operand)(ho:o.op = .call { callee :=.builtin .append,args := #[s,x],argTypes := #[40,40] })(base:Nat)(v:Value)(n:Nat)(xs:List Value)(hs:a.eval s=v)(hown:w.ownsRow base 9 1 v n xs)
  (A:Option Addr) (m c:Nat) (news:List Value) (hx:a.eval x = .slice A m c) (hsrc:Src w A m c news) (h1:∀u ∈ news,u.oneCell'=true) (hb1:n+m≤100000) (hbase:base≤w.heap.size)
  (h:∀v' w',w'.ownsRow base 9 1 v' (n+m) (xs++news)→w.grownBy w' v.ownBlock→(v'.ownBlock=v.ownBlock∨v'.ownBlock=some w.heap.size)→K (a.put o.dst v') w'):o.wp Tryz.prog a w K Q:=by
 obtain⟨i,hi,hz,hz1,hz2⟩:=info_parts info9e
 cases A with
 |none=>
  obtain⟨rfl,rfl⟩:=hsrc.2.1 rfl
  have hn:news=[]:=List.eq_nil_of_length_eq_zero hsrc.1
  subst hn
  have hrun:=run_append_owned_none (P:=Tryz.prog) (w:=w) base 40 o.type 9 i 1 Tryz.underlying40 hi v n xs hown
  unfold Oper.wp execOp
  simp only[ho,resolve,invoke,builtin,Sem.run_bind,Sem.run_pure,Result.andThen_ok,List.map_toArray,List.map_cons,List.map_nil,hs,hx,hrun]
  exact h v w (by simpa using hown) (World.grownBy.refl w _) (.inl rfl)
 |some ad=>
  obtain⟨v',w',hrun,h2,h3,_,h4⟩:=run_append_own_at (P:=Tryz.prog) w base 40 o.type 9 i (.string ⟨#[]⟩) 1 16 Tryz.underlying40 hi hz hz1 hz2 rfl (by decide) v n xs hown ad m c news (by rw[hsrc.1];omega) (hsrc.2.2 ad rfl).2 h1 (by unfold maxLen;omega) (by omega) hbase
  unfold Oper.wp execOp
  simp only[ho,resolve,invoke,builtin,Sem.run_bind,Sem.run_pure,Result.andThen_ok,List.map_toArray,List.map_cons,List.map_nil,hs,hx,hrun]
  exact h v' w' h2 h3 h4
theorem build0_wp (ho:o.op = .buildSlice 40 0 #[])(h:K (a.put o.dst (.slice (some ⟨w.heap.size,0,none⟩) 0 0)) (w.alloc (.cells #[] 9))):o.wp Tryz.prog a w K Q:=by
 unfold Oper.wp execOp
 simp only[ho,List.map_toArray,List.map_nil]
 simp[go_sem]
 exact h
theorem build1t_wp {x:Operand}{t:ByteArray}(ho:o.op = .buildSlice 40 1 #[(0,x)])(hx:a.eval x = .string t)(h:K (a.put o.dst (.slice (some ⟨w.heap.size,0,none⟩) 1 1)) (w.alloc (.cells #[.string t] 9))):o.wp Tryz.prog a w K Q:=by
 unfold Oper.wp execOp
 simp only[ho,List.map_toArray,List.map_cons,List.map_nil,hx]
 simp[go_sem]
 exact h
end
section
variable {ops:Array Oper} {Q:Exit→Act→World→Prop} {S:World→Prop} {fuel:Nat} {listed:Array Bool} {a:Act} {w:World} {o:Oper}
theorem h_two (i j:Nat)(oi oj:Oper)(hi:ops[i]?=some oi)(hj:ops[j]?=some oj)(hr:Region.ready .any ops listed=[i,j])(hwi:Region.wanted oi (yielded ops a.tmps)=true)(hwj:Region.wanted oj (yielded ops a.tmps)=true)
  (h1:oi.wp Tryz.prog a w (λa' w'=>S w'∧wpAnyH Tryz.prog .any ops Q S fuel (listed.setIfInBounds i true) a' w') Q) (h2:oj.wp Tryz.prog a w (λa' w'=>S w'∧wpAnyH Tryz.prog .any ops Q S fuel (listed.setIfInBounds j true) a' w') Q):wpAnyH Tryz.prog .any ops Q S (fuel+1) listed a w:=
 wpAnyH_all hr (by simp) λk hk=>by
  have:k=i∨k=j:=by simpa using hk
  rcases this with rfl |rfl
  ·unfold wpOp
   simp only[hi,hwi,if_true]
   exact .inl h1
  ·unfold wpOp
   simp only[hj,hwj,if_true]
   exact .inl h2
theorem y_to {x y:Operand}{u v r:Value}(ho:o.op = .slice 40 x none (some y) none)(hx:a.eval x=u)(hy:a.eval y=v)(hr:∀w,(Instr.sliceAt 40 u none (some v) none).run Tryz.prog w = .ok r w):∀w,S w→(execOp a.eval o).run Tryz.prog w = .ok (.value r) w:=λw _=>by
 unfold execOp
 simp only[ho,hx,hy,Option.map_some,Option.map_none,Sem.run_bind,hr w,Sem.run_pure,Result.andThen_ok]
theorem y_from {x y:Operand}{u v r:Value}(ho:o.op = .slice 40 x (some y) none none)(hx:a.eval x=u)(hy:a.eval y=v)(hr:∀w,(Instr.sliceAt 40 u (some v) none none).run Tryz.prog w = .ok r w):∀w,S w→(execOp a.eval o).run Tryz.prog w = .ok (.value r) w:=λw _=>by
 unfold execOp
 simp only[ho,hx,hy,Option.map_some,Option.map_none,Sem.run_bind,hr w,Sem.run_pure,Result.andThen_ok]
end
theorem add0 (A:Option Addr):A.map (·.add 0)=A:=by cases A<;>simp[Addr.add]
theorem el40:Tryz.prog.underlying 40=some (.slice (Tryz.prog.elem 40)):=by kernel_rfl
theorem size40 (w:World):(sizeOf (Tryz.prog.elem 40)).run Tryz.prog w = .ok 1 w:=by kernel_rfl
theorem sl_to (A:Option Addr)(m co k:Nat)(h:k≤co)(w:World):(Instr.sliceAt 40 (.slice A m co) none (some (.int .i64 (k:Int))) none).run Tryz.prog w = .ok (.slice A k co) w:=by
 have h1:(0:Int)≤(k:Int):=by omega
 have h2:(k:Int)≤(co:Int):=by omega
 rw[run_sliceAt_slice w 40 _ _ _ _ el40,run_slice_h w 40 A m co el40 .i64 (k:Int) h1 h2]
 rw[size40];simp[sliced,add0]
theorem sl_from (A:Option Addr)(m co k:Nat)(h:k≤m)(w:World):(Instr.sliceAt 40 (.slice A m co) (some (.int .i64 (k:Int))) none none).run Tryz.prog w = .ok (.slice (if co=k then A else A.map (·.add k)) (m-k) (co-k)) w:=by
 have h1:(0:Int)≤(k:Int):=by omega
 have h2:(k:Int)≤(m:Int):=by omega
 rw[run_sliceAt_slice w 40 _ _ _ _ el40,run_slice_l w 40 A m co el40 .i64 (k:Int) h1 h2]
 rw[size40];simp[sliced]
theorem src_to {w:World}{base co:Nat}{A:Option Addr}{os:List (List UInt8)}(h:w.ownsRow base 9 1 (.slice A os.length co) os.length (encs os)){k:Nat}(hk:k≤os.length):Src w A k co (encs (os.take k)):=by
 refine⟨by rw[encs_len,List.length_take];omega,λe =>?_,λad e =>?_⟩
 ·subst e
  rcases h.2 with⟨e1,e2⟩ |⟨g,cap,cur,e1,_⟩
  ·injection e1 with _ _ e3;exact⟨by omega,e3⟩
  ·injection e1 with e1;cases e1
 ·subst e
  rcases h.2 with⟨e1,_⟩ |⟨g,cap,cur,e1,_,hg,_⟩
  ·injection e1 with e1;cases e1
  ·injection e1 with e1 _ _
   injection e1 with e1
   subst e1
   refine⟨(Array.getElem?_eq_some_iff.1 hg).1,λj u hu =>?_⟩
   refine h.cells (g:=g) rfl j u ?_
   unfold encs at hu ⊢
   rw[List.map_take,List.getElem?_take]at hu
   split at hu
   ·exact hu
   ·cases hu
theorem src_from {w:World}{base co:Nat}{A:Option Addr}{os:List (List UInt8)}(h:w.ownsRow base 9 1 (.slice A os.length co) os.length (encs os)){k:Nat}(hk:k≤os.length):Src w (if co=k then A else A.map (·.add k)) (os.length-k) (co-k) (encs (os.drop k)):=by
 refine⟨by rw[encs_len,List.length_drop],λe =>?_,λad e =>?_⟩
 ·have e0:A=none:=by
   by_cases hc:co=k
   ·rw[if_pos hc]at e;exact e
   ·rw[if_neg hc]at e;cases A with
    |none=>rfl
    |some a=>simp at e
  subst e0
  rcases h.2 with⟨e1,e2⟩ |⟨g,cap,cur,e1,_⟩
  ·injection e1 with _ _ e3;exact⟨by omega,by omega⟩
  ·injection e1 with e1;cases e1
 ·rcases h.2 with⟨e1,_⟩ |⟨g,cap,cur,e1,_,hg,hnc,_⟩
  ·injection e1 with e1 _ _
   subst e1
   simp at e
  ·injection e1 with e1 _ e3
   subst e1 e3
   have hgl:g<w.heap.size:=(Array.getElem?_eq_some_iff.1 hg).1
   by_cases hc:co=k
   ·rw[if_pos hc]at e
    injection e with e
    subst e
    refine⟨hgl,λj u hu =>?_⟩
    rw[List.drop_eq_nil_of_le (by omega)]at hu
    cases hu
   ·rw[if_neg hc]at e
    simp only[Option.map_some,Option.some.injEq]at e
    subst e
    refine⟨by rw[blk_add];exact hgl,λj u hu =>?_⟩
    rw[add_add]
    refine h.cells (g:=g) rfl (k+j) u ?_
    unfold encs at hu ⊢
    rw[List.map_drop,List.getElem?_drop]at hu
    exact hu
theorem own_sts {w:World}{base:Nat}{co:Nat}{A:Option Addr}{os:List (List UInt8)}(h:w.ownsRow base 9 1 (.slice A os.length co) os.length (encs os)):Sts w A os:=λh0=>by
 rcases h.2 with⟨_,e2⟩ |⟨g,cap,cur,e1,_,hg,_⟩
 ·omega
 ·injection e1 with e1 _ _
  subst e1
  refine⟨g,0,rfl,(Array.getElem?_eq_some_iff.1 hg).1,λj hj =>?_⟩
  have:=h.cells (g:=g) rfl j (Go.Proofs.encStr os[j]) (by unfold encs;rw[List.getElem?_map,List.getElem?_eq_getElem hj];rfl)
  rw[show(⟨g,0,none⟩:Addr).add j=⟨g,0+j,none⟩by simp[Addr.add];omega]at this
  exact this
theorem own9_below {w w':World}{base n:Nat}{v:Value}{xs:List Value}(h:w.ownsRow base 9 1 v n xs)(hb:Below w.heap.size w w'):w'.ownsRow base 9 1 v n xs:=own_below h hb
theorem lss_str (X Y:ByteArray):binOp .lss 9 (.string X) (.string Y)=pure (.bool (Op.bytesLess X.toList Y.toList)):=by simp[binOp,Op.stringOp]
theorem enc_lt {x y:List UInt8}{X:ByteArray}(hX:Go.Proofs.encStr x = .string X)(t:ByteArray)(hy:y=t.data.toList):Op.bytesLess X.toList t.toList=decide (x<y):=by
 cases hX
 subst hy
 rw[bytesLess_eq,Lib.toList_data,Lib.toList_data]
theorem enc_mk (t:ByteArray):Go.Proofs.encStr t.data.toList = .string t:=enc_tx t
def PutR (base:Nat)(ts:List (List UInt8))(W:World)(v:Value)(W':World):Prop:=W'.ownsRow base 9 1 v ts.length (encs ts)∧Below W.heap.size W W'
end
end Go.Proofs.YteecfjhjllajlaaGreatDoor
