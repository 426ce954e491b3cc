/- PROVED here: parts Csh Ea Eb of the claim. No condition but those in each theorem's own head. -/
import Derived.Shelf.Sort.Plain
import Derived.Shelf.Slices.CompactS
import Derived.Shelf.Slices.Cells
import Derived.Shelf.Slices.In.SortNone
import Derived.Shelf.Slices.Empties2
import Derived.Test.YteecfjhjllajlaaGreatDoorProg
import Derived.Test.YteecfjhjllajlaaGreatDoorH43
import Derived.Test.YteecfjhjllajlaaGreatDoorH33
import Derived.Sort.OwnSorted
namespace Go.Proofs
section
open Go.Shelf
def Tryz.lays190_ren:Go.Shelf.Ren:=⟨fun|190=>96 |125=>158 |258=>157 |128=>233 |129=>234 |302=>224 |303=>225 |304=>226 |305=>227 |306=>228 |307=>229 |308=>230 |309=>231 |310=>232 |333=>258 |329=>259 |330=>260 |334=>261 |335=>262 |336=>263 |344=>295 |n=>n,fun|31=>40 |9=>9 |3=>3 |46=>149 |0=>0 |51=>186 |53=>188 |4=>4 |183=>180 |182=>179 |131=>145 |5=>5 |218=>197 |222=>201 |228=>215 |229=>216 |n=>n,fun|n=>n⟩
theorem Tryz.lays190:Go.Proofs.Lays.n190 Tryz.prog Tryz.lays190_ren := {
 mixed:=by kernel_rfl
 f125:=Tryz.func158.trans (congrArg some (by kernel_rfl))
 f128:=Tryz.func233.trans (congrArg some (by kernel_rfl))
 f129:=Tryz.func234.trans (congrArg some (by kernel_rfl))
 f190:=Tryz.func96.trans (congrArg some (by kernel_rfl))
 f258:=Tryz.func157.trans (congrArg some (by kernel_rfl))
 f302:=Tryz.func224.trans (congrArg some (by kernel_rfl))
 f303:=Tryz.func225.trans (congrArg some (by kernel_rfl))
 f304:=Tryz.func226.trans (congrArg some (by kernel_rfl))
 f305:=Tryz.func227.trans (congrArg some (by kernel_rfl))
 f306:=Tryz.func228.trans (congrArg some (by kernel_rfl))
 f307:=Tryz.func229.trans (congrArg some (by kernel_rfl))
 f308:=Tryz.func230.trans (congrArg some (by kernel_rfl))
 f309:=Tryz.func231.trans (congrArg some (by kernel_rfl))
 f310:=Tryz.func232.trans (congrArg some (by kernel_rfl))
 f329:=Tryz.func259.trans (congrArg some (by kernel_rfl))
 f330:=Tryz.func260.trans (congrArg some (by kernel_rfl))
 f333:=Tryz.func258.trans (congrArg some (by kernel_rfl))
 f334:=Tryz.func261.trans (congrArg some (by kernel_rfl))
 f335:=Tryz.func262.trans (congrArg some (by kernel_rfl))
 f336:=Tryz.func263.trans (congrArg some (by kernel_rfl))
 f344:=Tryz.func295.trans (congrArg some (by kernel_rfl))
 t0:=Tryz.underlying0
 a0:=Tryz.isAgg0
 z0:=Tryz.sizeOf0
 v0:=Tryz.zeroValue0
 t3:=Tryz.underlying3
 a3:=Tryz.isAgg3
 z3:=Tryz.sizeOf3
 v3:=Tryz.zeroValue3
 t4:=Tryz.underlying4
 a4:=Tryz.isAgg4
 z4:=Tryz.sizeOf4
 v4:=Tryz.zeroValue4
 t5:=Tryz.underlying5
 a5:=Tryz.isAgg5
 z5:=Tryz.sizeOf5
 v5:=Tryz.zeroValue5
 t9:=Tryz.underlying9
 a9:=Tryz.isAgg9
 z9:=Tryz.sizeOf9
 v9:=Tryz.zeroValue9
 t31:=Tryz.underlying40
 a31:=Tryz.isAgg40
 z31:=Tryz.sizeOf40
 v31:=Tryz.zeroValue40
 t46:=Tryz.underlying149
 a46:=Tryz.isAgg149
 z46:=Tryz.sizeOf149
 v46:=Tryz.zeroValue149
 t51:=Tryz.underlying186
 a51:=Tryz.isAgg186
 z51:=Tryz.sizeOf186
 v51:=Tryz.zeroValue186
 t53:=Tryz.underlying188
 a53:=Tryz.isAgg188
 z53:=Tryz.sizeOf188
 v53:=Tryz.zeroValue188
 t131:=Tryz.underlying145
 a131:=Tryz.isAgg145
 z131:=Tryz.sizeOf145
 v131:=Tryz.zeroValue145
 t182:=Tryz.underlying179
 a182:=Tryz.isAgg179
 z182:=Tryz.sizeOf179
 v182:=Tryz.zeroValue179
 t183:=Tryz.underlying180
 a183:=Tryz.isAgg180
 z183:=Tryz.sizeOf180
 v183:=Tryz.zeroValue180
 t218:=Tryz.underlying197
 a218:=Tryz.isAgg197
 z218:=Tryz.sizeOf197
 v218:=Tryz.zeroValue197
 t222:=Tryz.underlying201
 a222:=Tryz.isAgg201
 z222:=Tryz.sizeOf201
 v222:=Tryz.zeroValue201
 t228:=Tryz.underlying215
 a228:=Tryz.isAgg215
 z228:=Tryz.sizeOf215
 v228:=Tryz.zeroValue215
 t229:=Tryz.underlying216
 a229:=Tryz.isAgg216
 z229:=Tryz.sizeOf216
 v229:=Tryz.zeroValue216 }
open Go.Sort Go.RowKit in
theorem Tryz.slices_Sort_string (blk off cap:Nat)(ss:List (List UInt8))(w:World)(hH:Holds encStr w blk off ss.toArray)(hblk:blk<w.heap.size)(hsz:ss.length<4611686018427387904) :
  Calls Tryz.prog 96 #[.slice (some ⟨blk,off,none⟩) ss.length cap] w fun e w'=>
   e = .returned (.tuple #[])∧∃n os,w'=grow (putRow encStr (Sort.ahead w n) blk off (ss.mergeSort fun x y=>decide (x≤y)).toArray) os:=Any.slices_Sort_string Tryz.lays190 blk off cap ss w hH hblk hsz
def Tryz.lays194_ren:Go.Shelf.Ren:=⟨fun|194=>97 |n=>n,fun|31=>40 |9=>9 |3=>3 |4=>4 |0=>0 |n=>n,fun|n=>n⟩
theorem Tryz.lays194:Go.Proofs.Lays.n194 Tryz.prog Tryz.lays194_ren := {
 mixed:=by kernel_rfl
 f194:=Tryz.func97.trans (congrArg some (by kernel_rfl))
 t0:=Tryz.underlying0
 a0:=Tryz.isAgg0
 z0:=Tryz.sizeOf0
 v0:=Tryz.zeroValue0
 t3:=Tryz.underlying3
 a3:=Tryz.isAgg3
 z3:=Tryz.sizeOf3
 v3:=Tryz.zeroValue3
 t4:=Tryz.underlying4
 a4:=Tryz.isAgg4
 z4:=Tryz.sizeOf4
 v4:=Tryz.zeroValue4
 t9:=Tryz.underlying9
 a9:=Tryz.isAgg9
 z9:=Tryz.sizeOf9
 v9:=Tryz.zeroValue9
 t31:=Tryz.underlying40
 a31:=Tryz.isAgg40
 z31:=Tryz.sizeOf40
 v31:=Tryz.zeroValue40 }
open Go.RowKit Go.Lib Go.Sort in
theorem Tryz.slices_Compact_string (blk off cap:Nat)(zs:List (List UInt8))(w:World)(hH:Holds encStr w blk off zs.toArray)(hsz:zs.length≤9223372036854775807)(hcap:zs.length≤cap) :
  Calls Tryz.prog 97 #[.slice (some ⟨blk,off,none⟩) zs.length cap] w fun e w'=>e = .returned (.slice (some ⟨blk,off,none⟩) (Lib.compact zs).length cap)∧∃q,w'=putRow encStr (Sort.ahead w q) blk off (Lib.compact zs++List.replicate (zs.length-(Lib.compact zs).length) []).toArray:=Any.slices_Compact_string Tryz.lays194 blk off cap zs w hH hsz hcap
open Go.RowKit Go.Lib Go.Sort in
theorem Tryz.slices_Compact_string_empty (a:Option Addr)(cap:Nat)(w:World) :
  Calls Tryz.prog 97 #[.slice a 0 cap] w fun e w'=>e = .returned (.slice a 0 cap)∧w'=w:=Any.slices_Compact_string_empty Tryz.lays194 a cap w
open Go.RowKit Go.Sort in
theorem Tryz.slices_Sort_string_none (p:Option Addr)(cap:Nat)(w:World) :
  Calls Tryz.prog 96 #[.slice p 0 cap] w fun e w'=>e = .returned (.tuple #[])∧w'=w:=Any.slices_Sort_string_none Tryz.lays190 p cap w
end
end Go.Proofs
namespace Go.Proofs.YteecfjhjllajlaaGreatDoor
section
set_option maxHeartbeats 4000000
set_option maxRecDepth 100000
open Go Go.RowKit Go.Sort
open Tr (Bx heap1 bt Nds Ints VPost BPost rgB)
def chn (l:List Tr.Nd):List (List UInt8):=(l.filter fun x=>decide (x.kd=18)).map fun x=>x.tx.data.toList
def srtL (ss:List (List UInt8)):List (List UInt8):=ss.mergeSort fun x y=>decide (x≤y)
def chL (l:List Tr.Nd):List (List UInt8):=Lib.compact (srtL (chn l))
theorem chn_step {l:List Tr.Nd}{j:Nat}(h:j<l.length):chn (l.take (j+1))=chn (l.take j)++(if l[j].kd=18 then [l[j].tx.data.toList] else []):=by
 unfold chn
 rw[List.take_succ_eq_append_getElem h,List.filter_append,List.map_append]
 congr 1
 by_cases e:l[j].kd=18<;>simp[e]
theorem chn_len (l:List Tr.Nd):(chn l).length≤l.length:=by unfold chn;rw[List.length_map];exact List.length_filter_le _ _
def Sts (w:World)(A:Option Addr)(ts:List (List UInt8)):Prop:=
 0<ts.length→∃b off,A=some ⟨b,off,none⟩∧b<w.heap.size∧∀j (hj:j<ts.length),w.cell? ⟨b,off+j,none⟩=some (Go.Proofs.encStr ts[j])
theorem Sts.below {w w':World}{A:Option Addr}{ts:List (List UInt8)}(h:Sts w A ts)(hb:Below w.heap.size w w'):Sts w' A ts:=fun h0=>by
 obtain⟨b,off,e,hl,hc⟩:=h h0
 exact⟨b,off,e,Nat.lt_of_lt_of_le hl hb.size,fun j hj=>(hb.cell (p:=⟨b,off+j,none⟩) hl).trans (hc j hj)⟩
def SsPost (ts:List (List UInt8))(w:World)(e:Ending)(w':World):Prop:=∃A c,e = .returned (.slice A ts.length c)∧Sts w' A ts∧Below w.heap.size w w'
theorem run_field83v (A O:Option Addr)(n c m co:Nat)(bd bp:Nat)(w:World):(Instr.field 83 (.agg #[.slice A n c,.slice O m co,.map (some bd),.map (some bp)]) 0).run Tryz.prog w = .ok (.slice A n c) w:=by kernel_rfl
theorem enc_tx (s:ByteArray):Go.Proofs.encStr s.data.toList = .string s:=by
 show Value.string ⟨s.data.toList.toArray⟩=_
 rw[Array.toArray_toList]
theorem grow0 (w:World):grow w #[]=w:=by simp[grow]
theorem app_str {ops:Array Oper}{rest:List Oper}{o:Oper}{a:Act}{Q:Exit→Act→World→Prop}{w:World}{base:Nat}{v:Value}{ss:List (List UInt8)}(hgd:o.guard=none)(p x:Operand)
  (ho:o.op = .call { callee :=.builtin .append,args := #[p,x],argTypes := #[40,40] }) (s:ByteArray) (h:w.ownsRow base 9 1 v ss.length (ss.map Go.Proofs.encStr)) (hbs:base≤w.heap.size) (hs:a.eval p=v)
  (hx:a.eval x = .slice (some ⟨w.heap.size,0,none⟩) 1 1) (hlen:ss.length≤900000)
  (hk:∀v' w',w'.ownsRow base 9 1 v' (ss++[s.data.toList]).length ((ss++[s.data.toList]).map Go.Proofs.encStr)→Below base w w'→wpList Tryz.prog ops Q rest (a.put o.dst v') w'):wpList Tryz.prog ops Q (o :: rest) a (w.alloc (.cells #[.string s] 9)):=by
 obtain⟨i0,hi,hz0,hz1,hz2⟩:=info_parts Tk.info9
 refine wpList_plain hgd fun K hK =>?_
 refine wp_append_own2 (w.alloc (.cells #[.string s] 9)) p x 40 ho base 9 i0 (.string ⟨#[]⟩) 1 16 Tryz.underlying40 hi hz0 hz1 hz2 rfl (by decide) v ss.length (ss.map Go.Proofs.encStr) hs (h.kept (row:=none) (World.grownBy_alloc _ _ _) (Classical.em _)) ⟨w.heap.size,0,none⟩ 1 1 [.string s] hx rfl (blk_cells w [.string s] 9) ?_ (by unfold maxLen;omega) (by omega) (by rw[World.size_alloc];omega) ?_
 ·intro u hu
  rw[List.mem_singleton.1 hu];rfl
 ·intro v' w' h2 h3 h4
  have hb:Below base w (w.alloc (.cells #[.string s] 9)):=(Below.refl _ _).alloc hbs _
  refine hK _ _ (hk v' w' ?_ (hb.grown h3 (by rw[World.size_alloc];omega) (fun k e=>((h.lt k e)).1)))
  rw[List.length_append,List.map_append]
  show w'.ownsRow base 9 1 v' (ss.length+1) (ss.map Go.Proofs.encStr++[Go.Proofs.encStr s.data.toList])
  rw[enc_tx]
  exact h2
theorem sorted_any {w:World}{base g cap:Nat}{ss:List (List UInt8)}(h:w.ownsRow base 9 1 (.slice (some ⟨g,0,none⟩) ss.length cap) ss.length (ss.map Go.Proofs.encStr))(hs:ss.length≤4000) :
  Calls Tryz.prog 96 #[.slice (some ⟨g,0,none⟩) ss.length cap] w fun e w'=>e = .returned (.tuple #[])∧w'.ownsRow base 9 1 (.slice (some ⟨g,0,none⟩) ss.length cap) ss.length ((srtL ss).map Go.Proofs.encStr)∧(base≤w.heap.size→Below base w w'):=by
 rcases h.2 with⟨h0,_⟩ |⟨g',cap',cur,hv,hbase,hb,h1,h2,h3,h4⟩
 ·cases h0
 cases hv
 refine(Tryz.slices_Sort_string g 0 cap ss w (holds_of_block hb (by simpa using h4)) (Array.getElem?_eq_some_iff.1 hb).1 (by omega)).mono ?_
 rintro e w' ⟨rfl,n,os,rfl⟩
 refine⟨rfl,ownsRow_sorted (by simp) hbase hb h1 h2 h3,fun hbs =>?_⟩
 exact(Below.refl base w).grown (grownBy_sorted _) hbs (fun k e=>by cases e;exact hbase)
theorem comp_any {w:World}{base g cap:Nat}{zs:List (List UInt8)}(h:w.ownsRow base 9 1 (.slice (some ⟨g,0,none⟩) zs.length cap) zs.length (zs.map Go.Proofs.encStr))(hs:zs.length≤4000) :
  Calls Tryz.prog 97 #[.slice (some ⟨g,0,none⟩) zs.length cap] w fun e w'=>e = .returned (.slice (some ⟨g,0,none⟩) (Lib.compact zs).length cap)∧Sts w' (some ⟨g,0,none⟩) (Lib.compact zs)∧(base≤w.heap.size→Below base w w'):=by
 rcases h.2 with⟨h0,_⟩ |⟨g',cap',cur,hv,hbase,hb,h1,h2,h3,h4⟩
 ·cases h0
 cases hv
 have hle:=Lib.compact_length_le zs
 refine(Tryz.slices_Compact_string g 0 cap zs w (holds_of_block hb (by simpa using h4)) (by omega) h1).mono ?_
 rintro e w' ⟨rfl,q,rfl⟩
 have ho:=ownsRow_sorted (w:=w) (n:=q) (os := #[]) (ss:=zs) (ts:=Lib.compact zs++List.replicate (zs.length-(Lib.compact zs).length) []) (by rw[List.length_append,List.length_replicate];omega) hbase hb h1 h2 h3
 have hg:=grownBy_sorted (w:=w) (g:=g) (n:=q) (os := #[]) (Lib.compact zs++List.replicate (zs.length-(Lib.compact zs).length) []).toArray
 rw[grow0]at ho hg
 refine⟨rfl,fun _=>⟨g,0,rfl,(ho.lt g rfl).2,fun j hj =>?_⟩,fun hbs=>(Below.refl base w).grown hg hbs (fun k e=>by cases e;exact hbase)⟩
 rw[Nat.zero_add,ho.cellAt j (by omega),List.getElem?_map,List.getElem?_append_left hj,List.getElem?_eq_getElem hj]
 rfl
section
variable {w:World} {l:List Tr.Nd} {A:Option Addr} {n:Nat}
theorem channels_any (h:TT w A n l)(c:Nat)(r:Int):Calls Tryz.prog 51 #[.agg #[.slice A n c,.int .i64 r]] w (SsPost (chL (eff l r)) w):=by
 have hb0:=heap1 w (.cells #[.slice A n c,.int .i64 r] 25)
 have HB0:=Lib.hid hb0
 have HR:=Lib.hid (read_any (h.below hb0) c r)
 have HLE:=Lib.hid (show(eff l r).length≤4000 by
  cases hr:rgB l r with
  |true=>rw[eff_yes hr];exact(rtn_of hr).2.1
  |false=>rw[eff_no hr];exact Nat.zero_le _)
 clear h hb0
 generalize eff l r=L at *
 go_enter Tryz.func51,Tryz.ntmps51
 go_wp2_with (go_at_call 80;refine HR.out.mono ?_)
 rintro e w1 ⟨A1,n1,c1,O,co,bd,bp,rfl,hP,hC,hb1⟩
 unfold PrV
 have HP:=Lib.hid hP
 have HB1:=Lib.hid (bt HB0.out hb1)
 have HLN:=Lib.hid hP.len
 have hfl:=run_field83v A1 O n1 c1 n1 co bd bp
 have hn4:n1≤4000:=by rw[hP.len];exact HLE.out
 clear hP hC hb1 HR
 go_wp2
 clear hfl
 go_loopw [3,10] (fun a3 i wr=>∃(j:Nat) (v3:Value),v3=a3∧j≤n1∧i = .int .i64 (j:Int)∧Below w1.heap.size w1 wr∧wr.ownsRow w1.heap.size 9 1 v3 (chn (L.take j)).length ((chn (L.take j)).map Go.Proofs.encStr)) (fun _ i _=>n1-(intOf i).toNat)
 case atStart=>exact⟨0,_,rfl,Nat.zero_le _,rfl,Below.refl _ _,World.ownsRow_nil _ _ _ _⟩
 case round=>
  obtain⟨j,v3,rfl,hj,rfl,hb,ho⟩:=hrel
  have HB:=Lib.hid hb
  have HO:=Lib.hid ho
  obtain⟨W1,rfl⟩:∃W1,W1=wr:=⟨_,rfl⟩
  by_cases hjm:j<n1
  ·have hjz:(j:Int)<(n1:Int):=by omega
   have hjl:j<L.length:=by rw[← HLN.out];exact hjm
   obtain⟨bA,off,K,cK,rfl,xt,x0,x1,x2,x3,x4,_⟩:=node_at HP.out.nds hb j hjl
   have HST:=Lib.hid (chn_step hjl)
   have HXL:=Lib.hid (show(chn (L.take j)).length≤4000 from Nat.le_trans (chn_len _) (by rw[List.length_take];omega))
   have hX:=Bx.new W1 37 [.int .i64 L[j].kd,.int .i64 L[j].n,.int .i64 L[j].pl,.string L[j].tx,.slice K L[j].ks.length cK]
   have HBW:=Lib.hid (heap1 W1 (.cells #[.int .i64 L[j].kd,.int .i64 L[j].n,.int .i64 L[j].pl,.string L[j].tx,.slice K L[j].ks.length cK] 37))
   have HOW:=Lib.hid (show(W1.alloc (.cells #[.int .i64 L[j].kd,.int .i64 L[j].n,.int .i64 L[j].pl,.string L[j].tx,.slice K L[j].ks.length cK] 37)).ownsRow w1.heap.size 9 1 v3 (chn (L.take j)).length ((chn (L.take j)).map Go.Proofs.encStr)from ho.kept (row:=none) (World.grownBy_alloc _ _ _) (Classical.em _))
   obtain⟨W2,hW2⟩:∃W2,W1.alloc (.cells #[.int .i64 L[j].kd,.int .i64 L[j].n,.int .i64 L[j].pl,.string L[j].tx,.slice K L[j].ks.length cK] 37)=W2:=⟨_,rfl⟩
   rw[hW2]at hX HBW HOW
   have e0:=(hX.cell 0).trans rfl
   have e3:=(hX.cell 3).trans rfl
   have HSZ:=Lib.hid (show w1.heap.size≤W2.heap.size from Nat.le_trans HB.out.size HBW.out.size)
   obtain⟨ss,hss⟩:∃ss,chn (L.take j)=ss:=⟨_,rfl⟩
   rw[hss]at HOW HXL HST
   clear ho hb hX hss HO
   generalize L[j].kd=kd at *
   generalize L[j].tx=tx at *
   generalize L[j].n=nn at *
   generalize L[j].pl=pl at *
   generalize L[j].ks.length=mk at *
   by_cases hk:kd=18
   ·subst hk
    rw[if_pos rfl]at HST
    go_wp2_with (at_builtin;refine app_str rfl _ _ rfl tx HOW.out HSZ.out rfl rfl (by have:=HXL.out;omega) ?_;intro v9 w9 ho9 hb9)
    have HH:=Lib.hid (And.intro ho9 (HB.out.trans ((HBW.out.mono HB.out.size).trans hb9)))
    clear ho9 hb9
    go_wp2
    go_roundw
    case rel=>exact⟨j+1,_,rfl,by omega,by go_num,HH.out.2,by rw[HST.out];exact HH.out.1⟩
    case measure=>simp[intOf];omega
   ·have hkb:(kd==18)=false:=beq_eq_false_iff_ne.2 hk
    rw[if_neg hk,List.append_nil]at HST
    clear hk
    go_wp2
    go_roundw
    case rel=>exact⟨j+1,_,rfl,by omega,by go_num,HB.out.trans (HBW.out.mono HB.out.size),by rw[HST.out];exact HOW.out⟩
    case measure=>simp[intOf];omega
  ·have hjz:¬(j:Int)<(n1:Int):=by omega
   have hall:L.take j=L:=List.take_of_length_le (by have:=HLN.out;omega)
   rw[hall]at ho HO
   have HCL:=Lib.hid (show(chn L).length≤4000 from Nat.le_trans (chn_len _) HLE.out)
   clear hall hb
   obtain⟨ss,hss⟩:∃ss,chn L=ss:=⟨_,rfl⟩
   have HCH:=Lib.hid (show chL L=Lib.compact (srtL ss)by unfold chL;rw[hss])
   rw[hss]at ho HCL
   clear hss HO
   rcases ho.2 with⟨hv,h0⟩ |⟨g,cap,cur,hv,_⟩
   ·subst hv
    have hss:ss=[]:=List.length_eq_zero_iff.1 h0
    subst hss
    have HS1:=Lib.hid (Tryz.slices_Sort_string_none none 0 W1)
    have HS2:=Lib.hid (Tryz.slices_Compact_string_empty none 0 W1)
    have HNL:=Lib.hid (show chL L=[]by rw[HCH.out];simp[srtL,Lib.compact,Lib.compactUpTo])
    clear ho h0
    go_wp2_with (first|(go_at_call 96;refine HS1.out.mono ?_;rintro e w3 ⟨rfl,rfl⟩) |(go_at_call 97;refine HS2.out.mono ?_;rintro e w4 ⟨rfl,rfl⟩))
    go_ret
    exact⟨none,0,by rw[HNL.out];rfl,by rw[HNL.out];exact fun h=>absurd h (Nat.lt_irrefl 0),bt HB1.out HB.out⟩
   ·subst hv
    have HS1:=Lib.hid (sorted_any ho HCL.out)
    clear ho
    go_upto_region 8 with(fail)
    go_wp2_with (go_at_call 96;refine HS1.out.mono ?_;rintro e w3 ⟨rfl,hh3⟩;replace hh3:=Lib.hid hh3)
    have ho3:=hh3.out.1
    have hb3:=hh3.out.2
    clear hh3
    have HB3:=Lib.hid (hb3 HB.out.size)
    have hsl:(srtL ss).length=ss.length:=by simp[srtL]
    have HC:=Lib.hid (show Calls Tryz.prog 97 #[.slice (some ⟨g,0,none⟩) ss.length cap] w3 fun e w'=>e = .returned (.slice (some ⟨g,0,none⟩) (Lib.compact (srtL ss)).length cap)∧Sts w' (some ⟨g,0,none⟩) (Lib.compact (srtL ss))∧(w1.heap.size≤w3.heap.size→Below w1.heap.size w3 w')from by
     have:=comp_any (zs:=srtL ss) (by rw[hsl];exact ho3) (by rw[hsl];exact HCL.out)
     rw[hsl]at this
     exact this)
    clear ho3 hb3 hsl HS1
    go_wp2_with (go_at_call 97;refine HC.out.mono ?_)
    rintro e w4 ⟨rfl,hs4,hb4⟩
    have HH:=Lib.hid (And.intro hs4 (hb4 (Nat.le_trans HB.out.size HB3.out.size)))
    clear hs4 hb4 HC
    go_wp2
    go_ret
    exact⟨some ⟨g,0,none⟩,cap,by rw[HCH.out];rfl,by rw[HCH.out];exact HH.out.1,bt HB1.out (HB.out.trans (HB3.out.trans HH.out.2))⟩
end
end
section
open Go Go.RowKit Go.Sort
open Go.Lib (keeps compactUpTo compactUpTo_succ)
theorem keep_ne {d:Array (List UInt8)}{m:Nat}(h:keeps d (m+1)=true):d[m+1]! ≠ d[m]!:=by
 unfold keeps at h
 rcases of_decide_eq_true h with h1 |h1
 ·omega
 ·exact h1
theorem keep_eq {d:Array (List UInt8)}{m:Nat}(h:¬keeps d m=true):0<m∧d[m]! = d[m-1]!:=by
 unfold keeps at h
 have h1:=of_decide_eq_false (Bool.eq_false_iff.2 h)
 refine⟨Nat.pos_of_ne_zero fun e=>h1 (Or.inl e),?_⟩
 by_cases e:d[m]! = d[m-1]!
 ·exact e
 ·exact absurd (Or.inr e) h1
theorem cu_mem (d:Array (List UInt8))(x:List UInt8):∀m,x ∈ compactUpTo d m↔∃j,j<m∧d[j]! = x:=by
 intro m
 induction m with
 |zero=>
  constructor
  ·intro h;simp[compactUpTo]at h
  ·rintro⟨j,h,_⟩;omega
 |succ m ih=>
  rw[compactUpTo_succ,List.mem_append,ih]
  constructor
  ·rintro(⟨j,h,e⟩ |h)
   ·exact⟨j,by omega,e⟩
   ·by_cases hk:keeps d m=true
    ·rw[if_pos hk]at h
     exact⟨m,by omega,(List.mem_singleton.1 h).symm⟩
    ·rw[if_neg hk]at h;cases h
  ·rintro⟨j,h,e⟩
   by_cases hj:j<m
   ·exact Or.inl ⟨j,hj,e⟩
   ·obtain rfl:j=m:=by omega
    by_cases hk:keeps d j=true
    ·rw[if_pos hk];exact Or.inr (by rw[e];exact List.mem_singleton.2 rfl)
    ·obtain⟨h0,h1⟩:=keep_eq hk
     exact Or.inl ⟨j-1,by omega,by rw[← h1,e]⟩
theorem cu_up (d:Array (List UInt8))(N:Nat)(hd:∀j,j+1<N→d[j]! ≤ d[j+1]!):∀m,m≤N→(compactUpTo d m).Pairwise (· < ·)∧∀x ∈ compactUpTo d m,x≤d[m-1]!:=by
 intro m
 induction m with
 |zero=>intro _;simp[compactUpTo]
 |succ m ih=>
  intro hm
  obtain⟨h1,h2⟩:=ih (by omega)
  rw[compactUpTo_succ]
  by_cases hk:keeps d m=true
  ·rw[if_pos hk]
   cases m with
   |zero=>simp[compactUpTo]
   |succ k=>
    have hne:=keep_ne hk
    have hle:=hd k (by omega)
    have hlt:d[k]! < d[k+1]!:=by
     refine List.not_le.1 fun h=>hne (List.le_antisymm h hle)
    refine⟨List.pairwise_append.2 ⟨h1,List.pairwise_singleton _ _,fun a ha b hb =>?_⟩,fun x hx =>?_⟩
    ·rw[List.mem_singleton.1 hb]
     exact Std.lt_of_le_of_lt (h2 a ha) hlt
    ·rcases List.mem_append.1 hx with h |h
     ·exact List.le_trans (h2 x h) hle
     ·rw[List.mem_singleton.1 h];exact List.le_refl _
  ·rw[if_neg hk,List.append_nil]
   obtain⟨h0,he⟩:=keep_eq hk
   exact⟨h1,fun x hx=>by have:=h2 x hx;rw[Nat.add_sub_cancel,he];exact this⟩
theorem get_of (zs:List (List UInt8))(j:Nat)(h:j<zs.length):zs.toArray[j]! = zs[j]:=by
 rw[getElem!_pos zs.toArray j (by simpa using h)];simp
theorem comp_mem (zs:List (List UInt8))(x:List UInt8):x ∈ Lib.compact zs↔x ∈ zs:=by
 unfold Lib.compact
 rw[cu_mem,List.mem_iff_getElem]
 constructor
 ·rintro⟨j,h,e⟩;exact⟨j,h,by rw[← get_of zs j h];exact e⟩
 ·rintro⟨j,h,e⟩;exact⟨j,h,by rw[get_of zs j h];exact e⟩
theorem srt_up (ss:List (List UInt8)):(srtL ss).Pairwise fun a b=>decide (a≤b)=true:=by
 refine List.pairwise_mergeSort (fun a b c h1 h2 =>?_) (fun a b =>?_) ss
 ·simp only[decide_eq_true_eq]at *;exact List.le_trans h1 h2
 ·simp only[Bool.or_eq_true,decide_eq_true_eq];exact List.le_total a b
theorem chl_mem (l:List Tr.Nd)(x:List UInt8):x ∈ chL l↔∃y ∈ l,y.kd=18∧y.tx.data.toList=x:=by
 unfold chL srtL
 rw[comp_mem,List.mem_mergeSort]
 unfold chn
 simp only[List.mem_map,List.mem_filter,decide_eq_true_eq]
 constructor
 ·rintro⟨y,⟨h1,h2⟩,h3⟩;exact⟨y,h1,h2,h3⟩
 ·rintro⟨y,h1,h2,h3⟩;exact⟨y,⟨h1,h2⟩,h3⟩
theorem chl_up (l:List Tr.Nd):(chL l).Pairwise (· < ·):=by
 unfold chL Lib.compact
 refine(cu_up _ (srtL (chn l)).length (fun j hj =>?_) _ (Nat.le_refl _)).1
 rw[get_of _ _ (by omega),get_of _ _ hj]
 exact of_decide_eq_true (List.pairwise_iff_getElem.1 (srt_up (chn l)) j (j+1) (by omega) hj (by omega))
theorem chl_rise (l:List Tr.Nd){j:Nat}(h:j+1<(chL l).length):(chL l)[j]<(chL l)[j+1]:=List.pairwise_iff_getElem.1 (chl_up l) j (j+1) (by omega) h (by omega)
theorem chl_len (l:List Tr.Nd):(chL l).length≤(chn l).length:=by
 unfold chL
 exact Nat.le_trans (Lib.compact_length_le _) (by simp[srtL])
theorem chn_upto (l:List Tr.Nd)(i:Nat):(chn (l.take i)).length≤i:=Nat.le_trans (chn_len _) (by rw[List.length_take];omega)
end
end Go.Proofs.YteecfjhjllajlaaGreatDoor
