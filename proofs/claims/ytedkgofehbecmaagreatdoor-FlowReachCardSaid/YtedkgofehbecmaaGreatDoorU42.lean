/- PROVED here: parts E01 E02 E03 E04 E05 E06 Ra of the claim. No condition but those in each theorem's own head. -/
import Derived.Test.YtedkgofehbecmaaGreatDoorU01
import Derived.Test.YtedkgofehbecmaaGreatDoorU02
import Derived.Test.YtedkgofehbecmaaGreatDoorU03
import Derived.Test.YtedkgofehbecmaaGreatDoorU04
import Derived.Test.YtedkgofehbecmaaGreatDoorU05
import Derived.Test.YtedkgofehbecmaaGreatDoorU06
import Derived.Test.YtedkgofehbecmaaGreatDoorU07
import Derived.Test.YtedkgofehbecmaaGreatDoorU08
import Derived.Test.YtedkgofehbecmaaGreatDoorU09
import Derived.Test.YtedkgofehbecmaaGreatDoorU10
import Derived.Test.YtedkgofehbecmaaGreatDoorU11
import Derived.Test.YtedkgofehbecmaaGreatDoorU12
import Derived.Test.YtedkgofehbecmaaGreatDoorU13
import Derived.Test.YtedkgofehbecmaaGreatDoorU14
import Derived.Test.YtedkgofehbecmaaGreatDoorU15
import Derived.Test.YtedkgofehbecmaaGreatDoorU16
import Derived.Test.YtedkgofehbecmaaGreatDoorU17
import Derived.Test.YtedkgofehbecmaaGreatDoorU18
import Derived.Test.YtedkgofehbecmaaGreatDoorU19
import Derived.Test.YtedkgofehbecmaaGreatDoorU20
import Derived.Test.YtedkgofehbecmaaGreatDoorU21
import Derived.Test.YtedkgofehbecmaaGreatDoorU22
import Derived.Test.YtedkgofehbecmaaGreatDoorU23
import Derived.Test.YtedkgofehbecmaaGreatDoorU24
import Derived.Test.YtedkgofehbecmaaGreatDoorU25
import Derived.Test.YtedkgofehbecmaaGreatDoorU26
import Derived.Test.YtedkgofehbecmaaGreatDoorU27
import Derived.Test.YtedkgofehbecmaaGreatDoorU28
import Derived.Test.YtedkgofehbecmaaGreatDoorU29
import Derived.Test.YtedkgofehbecmaaGreatDoorU30
import Derived.Test.YtedkgofehbecmaaGreatDoorU31
import Derived.Test.YtedkgofehbecmaaGreatDoorU32
import Derived.Test.YtedkgofehbecmaaGreatDoorU33
import Derived.Test.YtedkgofehbecmaaGreatDoorU34
import Derived.Test.YtedkgofehbecmaaGreatDoorU35
import Derived.Test.YtedkgofehbecmaaGreatDoorU36
import Derived.Test.YtedkgofehbecmaaGreatDoorU37
import Derived.Test.YtedkgofehbecmaaGreatDoorU38
import Derived.Test.YtedkgofehbecmaaGreatDoorU39
import Derived.Test.YtedkgofehbecmaaGreatDoorU40
import Derived.Test.YtedkgofehbecmaaGreatDoorU41
import Derived.Shelf.Small.Wraps
import Derived.Shelf.Strconv.Itoa0
import Derived.Shelf.Strconv.Itoa1
import Derived.Shelf.LaysM
import Derived.Shelf.Strconv.Itoa2
import Derived.Shelf.Strconv.Itoa3
import Derived.Shelf.Strconv.ParseIntEmpty
import Derived.Shelf.Strconv.Clone
import Derived.Shelf.Strconv.SyntaxError
import Derived.Shelf.LaysC
import Derived.Shelf.Strconv.ToError
import Derived.Shelf.Strconv.Lower
import Derived.Shelf.Strconv.ParseUint10
import Derived.Shelf.Strconv.ParseUint10Empty
import Derived.Shelf.Strconv.ParseUint10Any
import Derived.Shelf.Strconv.ParseInt10
import Derived.Shelf.Strconv.RangeError
import Derived.Shelf.Strconv.ToErrorRange
import Derived.Shelf.Strconv.ParseUintEmpty
import Derived.Shelf.Strconv.ParseUint10b64
import Derived.Shelf.Strconv.ParseUint10b32
import Derived.Shelf.Strconv.ParseUint10b16
import Derived.Shelf.Strconv.ParseUint10b8
import Derived.Shelf.Strconv.ParseUint10At
import Derived.Shelf.Strconv.ParseInt10At64
import Derived.Shelf.Strconv.ParseInt10At32
import Derived.Shelf.Strconv.ParseInt10At16
import Derived.Shelf.Strconv.ParseInt10At8
import Derived.Shelf.Strconv.ParseInt10All
import Derived.Shelf.Strconv.ParseIntPublic10
import Derived.Shelf.Sort.Plain
import Derived.Shelf.Bits.Mul64
import Derived.Shelf.Slices.Clone
import Derived.Shelf.Slices.CompactI
import Derived.Shelf.Slices.Cells
import Derived.Shelf.Slices.In.SortNone
import Derived.Sort.OwnSortedInts
import Derived.RangeFuncWrites
import Derived.RangeFuncLeaves
namespace Go.Proofs.YtedkgofehbecmaaGreatDoor
open Go.Lib (hid keeps compactUpTo compactUpTo_succ)
open Go Go.RowKit
open Tr (Bx heap1 bt)
set_option maxRecDepth 100000 in
set_option maxHeartbeats 1000000 in
theorem ghas_any (w:World)(NA PA:Option Addr)(N cN np cp:Nat)(n:Int):Calls Tryz.prog 63 #[.agg #[.slice NA N cN,.slice PA np cp],.int .i64 n] w (VPost (.bool (decide (0<=n/\n<(N:Int)))) w):=by
 have HB:=hid (heap1 w (.cells #[.slice NA N cN,.slice PA np cp] 30))
 by_cases h0:0<=n
 ·by_cases h1:n<(N:Int)
  ·have e:decide (0<=n/\n<(N:Int))=true:=by simp[h0,h1]
   rw[e]
   go_enter Tryz.func63,Tryz.ntmps63
   go_wp2
   exact bodyPost_ret (v :=.bool true) (by simp[results,Tryz.f63,go_sem]) rfl ⟨rfl,HB.out⟩
  ·have e:decide (0<=n/\n<(N:Int))=false:=by simp[h1]
   rw[e]
   go_enter Tryz.func63,Tryz.ntmps63
   go_wp2
   exact bodyPost_ret (v :=.bool false) (by simp[results,Tryz.f63,go_sem]) rfl ⟨rfl,HB.out⟩
 ·have e:decide (0<=n/\n<(N:Int))=false:=by simp[h0]
  rw[e]
  go_enter Tryz.func63,Tryz.ntmps63
  go_wp2
  exact bodyPost_ret (v :=.bool false) (by simp[results,Tryz.f63,go_sem]) rfl ⟨rfl,HB.out⟩
end Go.Proofs.YtedkgofehbecmaaGreatDoor
namespace Go.Proofs
open Go.Shelf
def Tryz.lays189_ren:Go.Shelf.Ren:=⟨λ|189=>65 |125=>101 |257=>100 |128=>158 |129=>159 |294=>149 |295=>150 |296=>151 |297=>152 |298=>153 |299=>154 |216=>155 |300=>156 |301=>157 |328=>197 |329=>198 |330=>199 |331=>200 |332=>201 |215=>202 |343=>230 |n=>n,λ|28=>28 |3=>3 |46=>124 |0=>0 |51=>173 |53=>103 |4=>4 |183=>167 |182=>166 |131=>102 |5=>5 |9=>9 |218=>201 |222=>205 |228=>222 |229=>223 |n=>n,λ|n=>n⟩
theorem Tryz.lays189:Go.Proofs.Lays.n189 Tryz.prog Tryz.lays189_ren := {
 mixed:=by kernel_rfl
 f125:=Tryz.func101.trans (congrArg some (by kernel_rfl))
 f128:=Tryz.func158.trans (congrArg some (by kernel_rfl))
 f129:=Tryz.func159.trans (congrArg some (by kernel_rfl))
 f189:=Tryz.func65.trans (congrArg some (by kernel_rfl))
 f215:=Tryz.func202.trans (congrArg some (by kernel_rfl))
 f216:=Tryz.func155.trans (congrArg some (by kernel_rfl))
 f257:=Tryz.func100.trans (congrArg some (by kernel_rfl))
 f294:=Tryz.func149.trans (congrArg some (by kernel_rfl))
 f295:=Tryz.func150.trans (congrArg some (by kernel_rfl))
 f296:=Tryz.func151.trans (congrArg some (by kernel_rfl))
 f297:=Tryz.func152.trans (congrArg some (by kernel_rfl))
 f298:=Tryz.func153.trans (congrArg some (by kernel_rfl))
 f299:=Tryz.func154.trans (congrArg some (by kernel_rfl))
 f300:=Tryz.func156.trans (congrArg some (by kernel_rfl))
 f301:=Tryz.func157.trans (congrArg some (by kernel_rfl))
 f328:=Tryz.func197.trans (congrArg some (by kernel_rfl))
 f329:=Tryz.func198.trans (congrArg some (by kernel_rfl))
 f330:=Tryz.func199.trans (congrArg some (by kernel_rfl))
 f331:=Tryz.func200.trans (congrArg some (by kernel_rfl))
 f332:=Tryz.func201.trans (congrArg some (by kernel_rfl))
 f343:=Tryz.func230.trans (congrArg some (by kernel_rfl))
 t0:=Tryz.underlying0
 a0:=Tryz.isAgg0
 z0:=Tryz.sizeOf0
 v0:=Tryz.zeroValue0
 t3:=Tryz.underlying3
 a3:=Tryz.isAgg3
 z3:=Tryz.sizeOf3
 v3:=Tryz.zeroValue3
 t4:=Tryz.underlying4
 a4:=Tryz.isAgg4
 z4:=Tryz.sizeOf4
 v4:=Tryz.zeroValue4
 t5:=Tryz.underlying5
 a5:=Tryz.isAgg5
 z5:=Tryz.sizeOf5
 v5:=Tryz.zeroValue5
 t9:=Tryz.underlying9
 a9:=Tryz.isAgg9
 z9:=Tryz.sizeOf9
 v9:=Tryz.zeroValue9
 t28:=Tryz.underlying28
 a28:=Tryz.isAgg28
 z28:=Tryz.sizeOf28
 v28:=Tryz.zeroValue28
 t46:=Tryz.underlying124
 a46:=Tryz.isAgg124
 z46:=Tryz.sizeOf124
 v46:=Tryz.zeroValue124
 t51:=Tryz.underlying173
 a51:=Tryz.isAgg173
 z51:=Tryz.sizeOf173
 v51:=Tryz.zeroValue173
 t53:=Tryz.underlying103
 a53:=Tryz.isAgg103
 z53:=Tryz.sizeOf103
 v53:=Tryz.zeroValue103
 t131:=Tryz.underlying102
 a131:=Tryz.isAgg102
 z131:=Tryz.sizeOf102
 v131:=Tryz.zeroValue102
 t182:=Tryz.underlying166
 a182:=Tryz.isAgg166
 z182:=Tryz.sizeOf166
 v182:=Tryz.zeroValue166
 t183:=Tryz.underlying167
 a183:=Tryz.isAgg167
 z183:=Tryz.sizeOf167
 v183:=Tryz.zeroValue167
 t218:=Tryz.underlying201
 a218:=Tryz.isAgg201
 z218:=Tryz.sizeOf201
 v218:=Tryz.zeroValue201
 t222:=Tryz.underlying205
 a222:=Tryz.isAgg205
 z222:=Tryz.sizeOf205
 v222:=Tryz.zeroValue205
 t228:=Tryz.underlying222
 a228:=Tryz.isAgg222
 z228:=Tryz.sizeOf222
 v228:=Tryz.zeroValue222
 t229:=Tryz.underlying223
 a229:=Tryz.isAgg223
 z229:=Tryz.sizeOf223
 v229:=Tryz.zeroValue223 }
open Go.Sort Go.RowKit in
theorem Tryz.slices_Sort_int (blk off cap:Nat)(zs:List Int)(w:World)(hH:Holds (Value.int .i64) w blk off zs.toArray)(hblk:blk<w.heap.size)(hsz:zs.length<4611686018427387904) :
  Calls Tryz.prog 65 #[.slice (some ⟨blk,off,none⟩) zs.length cap] w λe w'=>
   e = .returned (.tuple #[])/\∃n os,w'=grow (putRow (Value.int .i64) (Sort.ahead w n) blk off (zs.mergeSort λx y=>decide (x<=y)).toArray) os:=Any.slices_Sort_int Tryz.lays189 blk off cap zs w hH hblk hsz
def Tryz.laysNm215_ren:Go.Shelf.Ren:=⟨λ|15=>64 |n=>n,λ|22=>28 |3=>3 |4=>4 |n=>n,λ|n=>n⟩
theorem Tryz.laysNm215:Go.Proofs.Lays2.n15 Tryz.prog Tryz.laysNm215_ren := {
 mixed:=by kernel_rfl
 f15:=Tryz.func64.trans (congrArg some (by kernel_rfl))
 t3:=Tryz.underlying3
 a3:=Tryz.isAgg3
 z3:=Tryz.sizeOf3
 v3:=Tryz.zeroValue3
 t4:=Tryz.underlying4
 a4:=Tryz.isAgg4
 z4:=Tryz.sizeOf4
 v4:=Tryz.zeroValue4
 t22:=Tryz.underlying28
 a22:=Tryz.isAgg28
 z22:=Tryz.sizeOf28
 v22:=Tryz.zeroValue28
 i3:=by kernel_rfl }
open Go.RowKit Go.Lib in
theorem Tryz.slices_Clone_int (b off n c:Nat)(zs:List Int)(w:World)(hz:n<=zs.length)(hbig:n*8<=140737488355328)(hc:∀j,j<zs.length->w.cell? ⟨b,off+j,none⟩=some (.int .i64 (zs.getD j 0))) :
  Calls Tryz.prog 64 #[.slice (some ⟨b,off,none⟩) n c] w λe w'=>∃v',e = .returned v'/\w'.ownsRow w.heap.size 3 1 v' n ((zs.take n).map (Value.int .i64))/\v' ≠ .slice none 0 0/\Below w.heap.size w w':=Any.slices_Clone_int Tryz.laysNm215 b off n c zs w hz hbig hc
open Go.RowKit Go.Lib in
theorem Tryz.slices_Clone_int_nil (n c:Nat)(w:World) :
  Calls Tryz.prog 64 #[.slice none n c] w λe w'=>e = .returned (.slice none 0 0)/\w'=w:=Any.slices_Clone_int_nil Tryz.laysNm215 n c w
open Go.RowKit Go.Lib in
theorem Tryz.slices_Clone_int_zero (a:Addr)(c:Nat)(w:World) :
  Calls Tryz.prog 64 #[.slice (some a) 0 c] w λe w'=>∃v',e = .returned v'/\w'.ownsRow w.heap.size 3 1 v' 0 []/\v' ≠ .slice none 0 0/\Below w.heap.size w w':=Any.slices_Clone_int_zero Tryz.laysNm215 a c w
def Tryz.laysNm220_ren:Go.Shelf.Ren:=⟨λ|20=>66 |n=>n,λ|22=>28 |3=>3 |4=>4 |0=>0 |n=>n,λ|n=>n⟩
theorem Tryz.laysNm220:Go.Proofs.Lays2.n20 Tryz.prog Tryz.laysNm220_ren := {
 mixed:=by kernel_rfl
 f20:=Tryz.func66.trans (congrArg some (by kernel_rfl))
 t0:=Tryz.underlying0
 a0:=Tryz.isAgg0
 z0:=Tryz.sizeOf0
 v0:=Tryz.zeroValue0
 t3:=Tryz.underlying3
 a3:=Tryz.isAgg3
 z3:=Tryz.sizeOf3
 v3:=Tryz.zeroValue3
 t4:=Tryz.underlying4
 a4:=Tryz.isAgg4
 z4:=Tryz.sizeOf4
 v4:=Tryz.zeroValue4
 t22:=Tryz.underlying28
 a22:=Tryz.isAgg28
 z22:=Tryz.sizeOf28
 v22:=Tryz.zeroValue28
 i3:=by kernel_rfl }
open Go.RowKit Go.Lib Go.Sort in
theorem Tryz.slices_Compact_int (blk off cap:Nat)(zs:List Int)(w:World)(hH:Holds (Value.int .i64) w blk off zs.toArray)(hsz:zs.length<=9223372036854775807)(hcap:zs.length<=cap) :
  Calls Tryz.prog 66 #[.slice (some ⟨blk,off,none⟩) zs.length cap] w λe w'=>e = .returned (.slice (some ⟨blk,off,none⟩) (Lib.compact zs).length cap)/\∃q,w'=putRow (Value.int .i64) (Sort.ahead w q) blk off (Lib.compact zs++List.replicate (zs.length-(Lib.compact zs).length) 0).toArray:=Any.slices_Compact_int Tryz.laysNm220 blk off cap zs w hH hsz hcap
open Go.RowKit Go.Lib Go.Sort in
theorem Tryz.slices_Compact_int_empty (a:Option Addr)(cap:Nat)(w:World) :
  Calls Tryz.prog 66 #[.slice a 0 cap] w λe w'=>e = .returned (.slice a 0 cap)/\w'=w:=Any.slices_Compact_int_empty Tryz.laysNm220 a cap w
open Go.RowKit Go.Sort in
theorem Tryz.slices_Sort_int_none (p:Option Addr)(cap:Nat)(w:World) :
  Calls Tryz.prog 65 #[.slice p 0 cap] w λe w'=>e = .returned (.tuple #[])/\w'=w:=Any.slices_Sort_int_none Tryz.lays189 p cap w
end Go.Proofs
namespace Go.Proofs.YtedkgofehbecmaaGreatDoor
open Go.Lib (hid keeps compactUpTo compactUpTo_succ)
open Go Go.RowKit Go.Sort
open Tr (Bx heap1 bt Nds Ints BPost IPost rgB Ib)
theorem GR.nd {w:World}{gb M:Nat}{X:Nat->Prop}{G:List Gn}(h:GR w gb M X G){i:Nat}(hi:i<G.length):∃K c,w.cell? ⟨gb,i*5,none⟩=some (.int .i64 G[i].kd)/\w.cell? ⟨gb,i*5+1,none⟩=some (.int .i64 G[i].pl)/\w.cell? ⟨gb,i*5+2,none⟩=some (.int .i64 G[i].pr)/\w.cell? ⟨gb,i*5+3,none⟩=some (.slice K G[i].nx.length c)/\w.cell? ⟨gb,i*5+4,none⟩=some (.int .i64 G[i].rs)/\Kd w X K G[i].nx:=by
 obtain⟨cs,hb,_,hc⟩:=h
 obtain⟨c0,c1,c2,c4,K,c,c3,hk⟩:=hc i hi
 exact⟨K,c,(hb.cell _).trans c0,(hb.cell _).trans c1,(hb.cell _).trans c2,(hb.cell _).trans c3,(hb.cell _).trans c4,hk⟩
def srtI (zs:List Int):List Int:=zs.mergeSort λx y=>decide (x<=y)
def aftL (x:Gn):List Int:=Lib.compact (srtI (x.nx++if x.rs = -1 then [] else [x.rs]))
theorem growI0 (w:World):grow w #[]=w:=by simp[grow]
theorem sortI_any {w:World}{base:Nat}{v:Value}{zs:List Int}(h:w.ownsRow base 3 1 v zs.length (zs.map (Value.int .i64)))(hs:zs.length<=4000)(hbs:base<=w.heap.size) :
  Calls Tryz.prog 65 #[v] w λe w'=>e = .returned (.tuple #[])/\w'.ownsRow base 3 1 v zs.length ((srtI zs).map (Value.int .i64))/\Below base w w':=by
 rcases h.2 with⟨h0,h1⟩ |⟨g',cap',cur,hv,hbase,hb,h1,h2,h3,h4⟩
 ·have hz:zs=[]:=List.length_eq_zero_iff.1 h1
  subst hz
  subst h0
  refine(Tryz.slices_Sort_int_none none 0 w).mono ?_
  rintro e w' ⟨rfl,rfl⟩
  exact⟨rfl,by have e:srtI []=[]:=List.mergeSort_nil;rw[e];exact h,(Below.refl _ _).mono hbs⟩
 ·subst hv
  refine(Tryz.slices_Sort_int g' 0 cap' zs w (holds_of_blockI hb (by simpa using h4)) (Array.getElem?_eq_some_iff.1 hb).1 (by omega)).mono ?_
  rintro e w' ⟨rfl,n,os,rfl⟩
  refine⟨rfl,ownsRow_sortedI (by simp) hbase hb h1 h2 h3,?_⟩
  exact(Below.refl base w).grown (grownBy_sortedI _) hbs (λk e=>by cases e;exact hbase)
theorem compI_any {w:World}{base:Nat}{v:Value}{zs:List Int}(h:w.ownsRow base 3 1 v zs.length (zs.map (Value.int .i64)))(hs:zs.length<=4000)(hbs:base<=w.heap.size) :
  Calls Tryz.prog 66 #[v] w λe w'=>∃A c,e = .returned (.slice A (Lib.compact zs).length c)/\Ints w' A (Lib.compact zs)/\Below base w w':=by
 rcases h.2 with⟨h0,h1⟩ |⟨g',cap',cur,hv,hbase,hb,h1,h2,h3,h4⟩
 ·have hz:zs=[]:=List.length_eq_zero_iff.1 h1
  subst hz
  subst h0
  refine(Tryz.slices_Compact_int_empty none 0 w).mono ?_
  rintro e w' ⟨rfl,rfl⟩
  exact⟨none,0,rfl,λh=>absurd h (by decide),(Below.refl _ _).mono hbs⟩
 ·subst hv
  have hle:=Lib.compact_length_le zs
  refine(Tryz.slices_Compact_int g' 0 cap' zs w (holds_of_blockI hb (by simpa using h4)) (by omega) h1).mono ?_
  rintro e w' ⟨rfl,q,rfl⟩
  have ho:=ownsRow_sortedI (w:=w) (n:=q) (os := #[]) (ss:=zs) (ts:=Lib.compact zs++List.replicate (zs.length-(Lib.compact zs).length) 0) (by rw[List.length_append,List.length_replicate];omega) hbase hb h1 h2 h3
  have hg:=grownBy_sortedI (w:=w) (g:=g') (n:=q) (os := #[]) (Lib.compact zs++List.replicate (zs.length-(Lib.compact zs).length) 0).toArray
  rw[growI0]at ho hg
  refine⟨some ⟨g',0,none⟩,cap',rfl,λ_=>⟨g',0,rfl,(ho.lt g' rfl).2,λj hj =>?_⟩,(Below.refl base w).grown hg hbs (λk e=>by cases e;exact hbase)⟩
  rw[Nat.zero_add,ho.cellAt j (by omega),List.getElem?_map,List.getElem?_append_left hj,List.getElem?_eq_getElem hj]
  rfl
theorem clone_any {w:World}{X:Nat->Prop}{K:Option Addr}{ks:List Int}(hk:Kd w X K ks)(hl:ks.length<=4000)(c:Nat)(hn:K=none->ks=[]) :
  Calls Tryz.prog 64 #[.slice K ks.length c] w λe w'=>∃v,e = .returned v/\w'.ownsRow w.heap.size 3 1 v ks.length (ks.map (Value.int .i64))/\Below w.heap.size w w':=by
 cases K with
 |none=>
  have hz:=hn rfl
  subst hz
  refine(Tryz.slices_Clone_int_nil 0 c w).mono ?_
  rintro e w' ⟨rfl,rfl⟩
  exact⟨_,rfl,World.ownsRow_nil _ _ _ _,Below.refl _ _⟩
 |some a=>
  by_cases h0:ks.length=0
  ·have hz:ks=[]:=List.length_eq_zero_iff.1 h0
   subst hz
   refine(Tryz.slices_Clone_int_zero a c w).mono ?_
   rintro e w' ⟨v',rfl,ho,_,hb⟩
   exact⟨_,rfl,ho,hb⟩
  ·obtain⟨b,cs,e,hb,hc,_⟩:=hk (by omega)
   cases e
   refine(Tryz.slices_Clone_int b 0 ks.length c ks w (Nat.le_refl _) (by omega) (λj hj =>?_)).mono ?_
   ·rw[cell_of_row w b (0+j) _ 3 (0,0) hb,Nat.zero_add,hc j hj,List.getD_eq_getElem?_getD,List.getElem?_eq_getElem hj];rfl
   ·rintro e w' ⟨v',rfl,ho,_,hb⟩
    rw[List.take_length]at ho
    exact⟨_,rfl,ho,hb⟩
end Go.Proofs.YtedkgofehbecmaaGreatDoor
namespace Go.Proofs.YtedkgofehbecmaaGreatDoor
open Go.Lib (hid keeps compactUpTo compactUpTo_succ)
open Go Go.RowKit
open Tr (Bx heap1 bt Nds Ints BPost IPost rgB Ib)
def IsP (ts:List Int)(w:World)(e:Ending)(w':World):Prop:=∃A c,e = .returned (.slice A ts.length c)/\Ints w' A ts/\Below w.heap.size w w'
set_option maxRecDepth 100000 in
set_option maxHeartbeats 4000000 in
theorem after_in {w:World}{gb M:Nat}{X:Nat->Prop}{G:List Gn}(h:GR w gb M X G)(c:Nat)(PA:Option Addr)(np cp:Nat){i:Nat}(hi:i<G.length)(hl:G[i].nx.length<=3000) :
  Calls Tryz.prog 27 #[.agg #[.slice (some ⟨gb,0,none⟩) G.length c,.slice PA np cp],.int .i64 (i:Int)] w (IsP (aftL G[i]) w):=by
 obtain⟨N,hNe⟩:∃N,G.length=N:=⟨_,rfl⟩
 rw[hNe]
 have hb0:=heap1 w (.cells #[.slice (some ⟨gb,0,none⟩) N c,.slice PA np cp] 30)
 have HX:=hid (Bx.new w 30 [.slice (some ⟨gb,0,none⟩) N c,.slice PA np cp])
 have hh:=ghas_any (w.alloc (.cells #[.slice (some ⟨gb,0,none⟩) N c,.slice PA np cp] 30)) (some ⟨gb,0,none⟩) PA N c np cp (i:Int)
 rw[decide_eq_true (show 0<=(i:Int)/\(i:Int)<(N:Int)by omega)]at hh
 have HB0:=hid hb0
 have HG:=hid (h.below hb0)
 obtain⟨W0,hW0⟩:∃W0,w.alloc (.cells #[.slice (some ⟨gb,0,none⟩) N c,.slice PA np cp] 30)=W0:=⟨_,rfl⟩
 rw[hW0]at hh HX HB0 HG
 have HH:=hid hh
 have HGL:=hid hi
 have hiz:(i:Int)<(N:Int):=by omega
 obtain⟨x,hx⟩:∃x,G[i]'hi=x:=⟨_,rfl⟩
 rw[hx]at hl
 have HXE:=hid hx
 rw[hx]
 have HNX:=hid hl
 obtain⟨kd,pl,pr,nx,rs⟩:=x
 dsimp only at hl
 obtain⟨ln,hln⟩:∃ln,nx.length=ln:=⟨_,rfl⟩
 have HLN:=hid hln
 have HNI:=hid hNe
 have a0:=(HX.out.cell 0).trans rfl
 have a1:=(HX.out.cell 1).trans rfl
 clear h hb0 hh hx hl hln hNe
 go_enter Tryz.func27,Tryz.ntmps27
 go_wp2_with (go_at_call 63;refine HH.out.mono ?_)
 rintro e w1 ⟨rfl,hb1⟩
 have hx1:=HX.out.below hb1 HX.out.lt
 have HB1:=hid (bt HB0.out hb1)
 have hg1:=HG.out.below hb1
 obtain⟨K,ck,-,-,-,y3,y4,hk⟩:=hg1.nd HGL.out
 rw[HXE.out]at y3 y4 hk
 dsimp only at y3 y4 hk
 rw[HLN.out]at y3
 have HY4:=hid (λ(W:World) (q:Below w1.heap.size w1 W)=>show W.cell? ⟨gb,i*5+4,none⟩=some (.int .i64 rs) from(q.cell (p:=⟨gb,i*5+4,none⟩) hg1.lt).trans y4)
 have HX1:=hid hx1
 have hcl:=clone_any hk (by have:=HNX.out;omega) ck (λe=>Classical.byContradiction λhne=>by
  obtain⟨b,cs,e2,_⟩:=hk (List.length_pos_iff.2 hne)
  rw[e]at e2;cases e2)
 rw[HLN.out]at hcl
 have HCL:=hid hcl
 clear a0 a1
 have a0:=(hx1.cell 0).trans rfl
 have hln3:ln<=3000:=by have:=HNX.out;have:=HLN.out;omega
 clear hb1 hx1 hg1 hk hcl y4 hW0
 go_upto_region 4 with(go_at_call 64;refine HCL.out.mono ?_;rintro e w2 ⟨v,rfl,ho,hb2⟩)
 have hx2:=HX1.out.below hb2 HX1.out.lt
 clear a0 y3
 have a0:=(hx2.cell 0).trans rfl
 have y4:=HY4.out _ hb2
 have HO:=hid ho
 have HB2:=hid hb2
 have HSZ:=hid hb2.size
 obtain⟨VA,vc,hv⟩:=own_slice ho
 by_cases hrs:rs = -1
 ·subst hrs
  have HS:=hid (λ(W:World) (q:W.ownsRow w1.heap.size 3 1 v ln (nx.map (Value.int .i64))) (z:w1.heap.size<=W.heap.size)=>show Calls Tryz.prog 65 #[v] W _ from sortI_any (zs:=nx) (by rw[HLN.out];exact q) (by rw[HLN.out];omega) z)
  have HC:=hid (λ(W:World) (q:W.ownsRow w1.heap.size 3 1 v (srtI nx).length ((srtI nx).map (Value.int .i64))) (z:w1.heap.size<=W.heap.size)=>show Calls Tryz.prog 66 #[v] W _ from compI_any q (by unfold srtI;rw[List.length_mergeSort,HLN.out];omega) z)
  have HR:=hid (show aftL ⟨kd,pl,pr,nx,-1⟩=Lib.compact (srtI nx)by unfold aftL;simp)
  have HSL:=hid (show(srtI nx).length=ln by unfold srtI;rw[List.length_mergeSort,HLN.out])
  clear hx2 hb2 ho hv
  go_wp2_with (first|(go_at_call 65;refine(HS.out _ HO.out HSZ.out).mono ?_;rintro e w3 ⟨rfl,ho3,hb3⟩;have HO3:=hid ho3;have HB3:=hid hb3;clear ho3 hb3) |(go_at_call 66;refine(HC.out _ (by have t:=HO3.out;rw[HLN.out]at t;rw[HSL.out];exact t) (Nat.le_trans HSZ.out HB3.out.size)).mono ?_;rintro e w4 ⟨A4,c4,rfl,hI4,hb4⟩))
  go_ret
  rw[HR.out]
  exact⟨A4,c4,rfl,hI4,bt HB1.out (HB2.out.trans (HB3.out.trans hb4))⟩
 ·have hne:(rs != -1)=true:=bne_iff_ne.2 hrs
  have HS:=hid (λ(v:Value) (W:World) (q:W.ownsRow w1.heap.size 3 1 v (ln+1) ((nx++[rs]).map (Value.int .i64))) (z:w1.heap.size<=W.heap.size)=>show Calls Tryz.prog 65 #[v] W _ from sortI_any (zs:=nx++[rs]) (by rw[List.length_append,HLN.out];exact q) (by rw[List.length_append,HLN.out];simp;omega) z)
  have HC:=hid (λ(v:Value) (W:World) (q:W.ownsRow w1.heap.size 3 1 v (srtI (nx++[rs])).length ((srtI (nx++[rs])).map (Value.int .i64))) (z:w1.heap.size<=W.heap.size)=>show Calls Tryz.prog 66 #[v] W _ from compI_any q (by unfold srtI;rw[List.length_mergeSort,List.length_append,HLN.out];simp;omega) z)
  have HR:=hid (show aftL ⟨kd,pl,pr,nx,rs⟩=Lib.compact (srtI (nx++[rs]))by unfold aftL;simp[hrs])
  have HSL:=hid (show(srtI (nx++[rs])).length=(nx++[rs]).length by unfold srtI;rw[List.length_mergeSort])
  have HOL:=hid (show w2.ownsRow w1.heap.size 3 1 v nx.length (nx.map (Value.int .i64))by rw[HLN.out];exact ho)
  have HV:=hid hv
  have HNL:=hid (show nx.length<=900000 by rw[HLN.out];omega)
  clear hx2 hb2 ho hrs
  subst hv
  go_wp2_with (first|(at_builtin;refine pr_append rfl _ _ rfl rs HOL.out HSZ.out rfl rfl HNL.out ?_;intro v3 w3 ho3 hg3 hf3;have hb3:=((Below.refl w1.heap.size w2).alloc HSZ.out (.cells #[.int .i64 rs] 3)).grown hg3 (by rw[World.size_alloc];have:=HSZ.out;omega) (λk e=>(HOL.out.lt k e).1);have HO3:=hid ho3;have HB3:=hid hb3;clear ho3 hg3 hf3 hb3) |(go_at_call 65;refine(HS.out _ _ (by have t:=HO3.out;rw[HLN.out]at t;rw[List.map_append];exact t) (Nat.le_trans HSZ.out HB3.out.size)).mono ?_;rintro e w4 ⟨rfl,ho4,hb4⟩;have HO4:=hid ho4;have HB4:=hid hb4;clear ho4 hb4) |(go_at_call 66;refine(HC.out _ _ (by rw[HSL.out];exact HO4.out) (Nat.le_trans (Nat.le_trans HSZ.out HB3.out.size) HB4.out.size)).mono ?_;rintro e w5 ⟨A5,c5,rfl,hI5,hb5⟩))
  go_ret
  rw[HR.out]
  exact⟨A5,c5,rfl,hI5,bt HB1.out (HB2.out.trans (HB3.out.trans (HB4.out.trans hb5)))⟩
end Go.Proofs.YtedkgofehbecmaaGreatDoor
namespace Go.Proofs.YtedkgofehbecmaaGreatDoor
open Go.Lib (hid keeps compactUpTo compactUpTo_succ)
open Go
section
open Tr (nth)
variable {l:List Tr.Nd} {b:Nat->Nat} {R:Nat->Bool} {t:List (Nat × Nat)} {first:Nat} {s:BdS}
theorem offG_le {p q:Nat}(h:p<q)(hq:q<=t.length):offG l t (p+1)<=offG l t q:=by
 have key:∀d p,p+d<=t.length->offG l t p<=offG l t (p+d):=λd=>by
  induction d with
  |zero=>exact λp _=>Nat.le_refl _
  |succ d ih=>exact λp hp=>Nat.le_trans (ih p (by omega)) (by rw[show p+(d+1)=(p+d)+1 by omega,offG_succ (by omega)];omega)
 have:=key (q-(p+1)) (p+1) (by omega)
 rwa [show p+1+(q-(p+1))=q by omega]at this
theorem IsG.tg (hs:IsG l b R t first s){p:Nat}(hp:p<t.length){k:Int}(hk:Tg (offG l t p) (offG l t (p+1)) k):∃j:Nat,k=(j:Int)/\∃hj:j<s.G.length,(s.G[j]).kd≠1/\(s.G[j]).pr=(p:Int):=by
 obtain⟨j,rfl,h1,h2⟩:=hk
 have hm:=offG_le (l:=l) (t:=t) (p:=p) (q:=t.length) hp (Nat.le_refl _)
 rw[<- hs.len]at hm
 have hjl:j<s.G.length:=by omega
 refine⟨j,rfl,hjl,?_⟩
 have huni:∀p',p'<t.length->offG l t p'<=j->j<offG l t (p'+1)->p'=p:=λp' hp' h3 h4=>by
  rcases Nat.lt_trichotomy p' p with h |h |h
  ·have:=offG_le (l:=l) (t:=t) h (by omega);omega
  ·exact h
  ·have:=offG_le (l:=l) (t:=t) h (by omega);omega
 rcases hs.at j hjl with⟨p',hp',hi',e',hx,_⟩ |⟨p',hp',hi',hx⟩ |⟨p',hp',hi',hx⟩ |⟨p',hp',q',hi',hq',hst',hx⟩
 ·have ho:=offG_succ (l:=l) hp'
  have:=huni p' hp' (by omega) (by omega)
  subst this
  omega
 ·have ho:=offG_succ (l:=l) hp'
  have:=huni p' hp' (by omega) (by omega)
  subst this
  rw[hx];exact⟨by simp,rfl⟩
 ·have ho:=offG_succ (l:=l) hp'
  have:=huni p' hp' (by omega) (by omega)
  subst this
  rw[hx];exact⟨by simp,rfl⟩
 ·have:=huni p' hp' (by omega) (by omega)
  subst this
  exact⟨by rw[hx.bs.kd];decide,hx.bs.pr⟩
end
end Go.Proofs.YtedkgofehbecmaaGreatDoor
namespace Go.Proofs.YtedkgofehbecmaaGreatDoor
open Go.Lib (hid keeps compactUpTo compactUpTo_succ)
open Go Go.RowKit Go.Sort
theorem keep_eqI {d:Array Int}{m:Nat}(h:¬keeps d m=true):0<m/\d[m]! = d[m-1]!:=by
 unfold keeps at h
 have h1:=of_decide_eq_false (Bool.eq_false_iff.2 h)
 refine⟨Nat.pos_of_ne_zero λe=>h1 (Or.inl e),?_⟩
 by_cases e:d[m]! = d[m-1]!
 ·exact e
 ·exact absurd (Or.inr e) h1
theorem cu_memI (d:Array Int)(x:Int):∀m,x ∈ compactUpTo d m↔∃j,j<m/\d[j]! = x:=by
 intro m
 induction m with
 |zero=>
  constructor
  ·intro h;simp[compactUpTo]at h
  ·rintro⟨j,h,_⟩;omega
 |succ m ih=>
  rw[compactUpTo_succ,List.mem_append,ih]
  constructor
  ·rintro(⟨j,h,e⟩ |h)
   ·exact⟨j,by omega,e⟩
   ·by_cases hk:keeps d m=true
    ·rw[if_pos hk]at h
     exact⟨m,by omega,(List.mem_singleton.1 h).symm⟩
    ·rw[if_neg hk]at h;cases h
  ·rintro⟨j,h,e⟩
   by_cases hj:j<m
   ·exact Or.inl ⟨j,hj,e⟩
   ·obtain rfl:j=m:=by omega
    by_cases hk:keeps d j=true
    ·rw[if_pos hk];exact Or.inr (by rw[e];exact List.mem_singleton.2 rfl)
    ·obtain⟨h0,h1⟩:=keep_eqI hk
     exact Or.inl ⟨j-1,by omega,by rw[<- h1,e]⟩
theorem get_ofI (zs:List Int)(j:Nat)(h:j<zs.length):zs.toArray[j]! = zs[j]:=by
 rw[getElem!_pos zs.toArray j (by simpa using h)];simp
theorem comp_memI (zs:List Int)(x:Int):x ∈ Lib.compact zs↔x ∈ zs:=by
 unfold Lib.compact
 rw[cu_memI,List.mem_iff_getElem]
 constructor
 ·rintro⟨j,h,e⟩;exact⟨j,h,by rw[<- get_ofI zs j h];exact e⟩
 ·rintro⟨j,h,e⟩;exact⟨j,h,by rw[get_ofI zs j h];exact e⟩
theorem aft_mem (x:Gn)(k:Int):k ∈ aftL x↔k ∈ x.nx\/(k=x.rs/\x.rs ≠ -1):=by
 unfold aftL srtI
 rw[comp_memI,List.mem_mergeSort,List.mem_append]
 by_cases e:x.rs = -1
 ·rw[if_pos e];simp[e]
 ·rw[if_neg e];simp[e]
theorem aft_len (x:Gn):(aftL x).length<=x.nx.length+1:=by
 unfold aftL
 refine Nat.le_trans (Lib.compact_length_le _) ?_
 unfold srtI
 rw[List.length_mergeSort,List.length_append]
 split<;>simp
theorem aft_nil (x:Gn):aftL x=[]↔x.nx=[]/\x.rs = -1:=by
 constructor
 ·intro h
  refine⟨List.eq_nil_iff_forall_not_mem.2 λk hk =>?_,Classical.byContradiction λe =>?_⟩
  ·have:=(aft_mem x k).2 (.inl hk);rw[h]at this;cases this
  ·have:=(aft_mem x x.rs).2 (.inr ⟨rfl,e⟩);rw[h]at this;cases this
 ·rintro⟨h1,h2⟩
  refine List.eq_nil_iff_forall_not_mem.2 λk hk =>?_
  rcases(aft_mem x k).1 hk with h |⟨_,h⟩
  ·rw[h1]at h;cases h
  ·exact h h2
theorem rsF_self {l:List Tr.Nd}(r:Int):∀k q,q<k->selfB (Tr.nth l q)=true->rsF l r k q=true
 |0,_,h,_=>absurd h (Nat.not_lt_zero _)
 |k+1,q,h,hs=>by
  unfold rsF
  by_cases e:q=k
  ·subst e
   simp[hs]
  ·have:=rsF_self r k q (by omega) hs
   simp[this]
section
open Tr (nth)
variable {l:List Tr.Nd} {b:Nat->Nat} {R:Nat->Bool} {t:List (Nat × Nat)} {first:Nat} {s:BdS}
theorem IsG.aft (hs:IsG l b R t first s)(hT:∀q,(nth l q).kd=15->q<l.length->R q=true)(hl:∀p (hp:p<t.length),(t[p]).2<=l.length){i:Nat}(hi:i<s.G.length) :
  (∀k ∈ aftL s.G[i],∃j:Nat,k=(j:Int)/\∃hj:j<s.G.length,(s.G[j]).kd≠1/\(s.G[j]).pr=(s.G[i]).pr)/\(((s.G[i]).kd==2 || (s.G[i]).kd==3)=decide (aftL s.G[i]=[]))/\(s.G[i]).nx.length<=2:=by
 rcases hs.at i hi with⟨p,hp,hi',e',hx,hk⟩ |⟨p,hp,hi',hx⟩ |⟨p,hp,hi',hx⟩ |⟨p,hp,q,hi',hq,hst,hx⟩
 ·refine⟨λk hk2 =>?_,?_,by rw[hx];simp⟩
  ·rw[hx]at hk2 |-
   have:k=e':=by
    rcases(aft_mem _ _).1 hk2 with h |⟨_,h⟩
    ·simpa using h
    ·exact absurd rfl h
   subst this
   exact hs.tg hp hk
  ·rw[hx]
   have:aftL ⟨1,(t[p].2:Int),(p:Int),[e'],-1⟩≠[]:=λe=>by have:=((aft_nil _).1 e).1;simp at this
   rw[decide_eq_false this];rfl
 ·refine⟨λk hk2 =>?_,?_,by rw[hx];simp⟩
  ·rw[hx]at hk2
   rw[(aft_nil _).2 ⟨rfl,rfl⟩]at hk2;cases hk2
  ·rw[hx,(aft_nil _).2 ⟨rfl,rfl⟩];rfl
 ·refine⟨λk hk2 =>?_,?_,by rw[hx];simp⟩
  ·rw[hx]at hk2
   rw[(aft_nil _).2 ⟨rfl,rfl⟩]at hk2;cases hk2
  ·rw[hx,(aft_nil _).2 ⟨rfl,rfl⟩];rfl
 ·refine⟨λk hk2 =>?_,?_,?_⟩
  ·rw[hx.bs.pr]
   rcases(aft_mem _ _).1 hk2 with h |⟨h1,h2⟩
   ·exact hs.tg hp (hx.nx k h)
   ·cases hR:R q with
    |true=>rw[h1];exact hs.tg hp (hx.up hR)
    |false=>exact absurd (hx.bs.rs hR) h2
  ·rw[hx.bs.kd]
   have hne:aftL s.G[i]≠[]:=λe=>by
    obtain⟨e1,e2⟩:=(aft_nil _).1 e
    have hln:=hx.len
    rw[e1]at hln
    have h15:(nth l q).kd=15:=by
     unfold wl at hln
     by_cases h:(nth l q).kd=15
     ·exact h
     ·rw[if_neg h]at hln
      split at hln<;>simp at hln
    have hql:q<l.length:=by have:=hl p hp;omega
    obtain⟨j,hj,_⟩:=hx.up (hT q h15 hql)
    rw[e2]at hj;omega
   rw[decide_eq_false hne];rfl
  ·rw[hx.len];unfold wl
   split
   ·exact Nat.le_refl _
   split<;>omega
end
end Go.Proofs.YtedkgofehbecmaaGreatDoor
namespace Go.Proofs.YtedkgofehbecmaaGreatDoor
open Go.Lib (hid keeps compactUpTo compactUpTo_succ)
open Go Go.RowKit
def SeqOwn {α:Type}(F:Fence)(n:Nat)(P:Program)(g:Nat)(lb:Array Value)(encs:α->Array Value)(Y:Nat->Prop)(S:List α->Prop)(N:Nat)(w:World):Prop:=
 ∀(l:Nat) (J:List α->(Nat->Prop)->World->Prop) (O0:Nat->Prop) (W:World),Below w.heap.size w W ->
  (∀pre O A B,J pre O A->Fr (λk=>¬O k/\¬Y k) A B->J pre O B) ->
  (∀pre O A,J pre O A->∀k,O k->k<A.heap.size/\¬Y k) ->
  (∀pre x O W1,J pre O W1->pre.length<N->YieldAt F (n-1) P l (encs x) W1 λe W'=>
   e = .returned (.bool true)/\∃O',J (pre++[x]) O' W'/\(∀k,O' k->O k\/W1.heap.size<=k)/\Fr O W1 W') ->
  J [] O0 W ->
  CallsIn F n P g (#[.func (.yield l) #[] #[]]++lb) W λe W'=>(∃v,e = .returned v)/\∃xs O,S xs/\J xs O W'
def ownPostR {α:Type}(I:List α->(Nat->Prop)->World->Prop)(xs:List α)(O:Nat->Prop)(W:World):Exit->Act->World->Prop
 | .normal,_,W'=>∃O',I xs O' W'/\(∀k,O' k->O k\/W.heap.size<=k)/\Fr O W W'
 |_,_,_=>False
theorem Fr.putObj {E:Nat->Prop}(W:World)(l:Nat)(o:Obj)(h:E l):Fr E W (W.putObj l o):=
 ⟨rfl,rfl,rfl,by simp[World.putObj],λb _ hE=>World.putObj_heap_other (λe=>hE (e▸h))⟩
theorem wpIn_rangeFunc_ownR {F:Fence}{n:Nat}{P:Program}{α:Type}{g:Operand}{ps:Array Tmp}{assign body:Code}{Q:Exit->Act->World->Prop}{a:Act}{w:World}
  (hro:F.round=none) (h1:1<=n) {gf:Nat} {lb:Array Value} (hg:a.eval g = .func (.func gf) #[] lb) (hFg:F.fn gf) (eg:∀args w,(callFunc gf args).run P w = .ok (.enter gf args) w)
  {encs:α->Array Value} {Y:Nat->Prop} {S:List α->Prop} {N:Nat} {w0:World} (hseq:SeqOwn F (n-1) P gf lb encs Y S N w0)
  (hb0:Below w0.heap.size w0 w) (hps:∀x,(encs x).size=ps.size) (hY:∀k,Y k->k<w.heap.size)
  (I:List α->(Nat->Prop)->World->Prop) (hIa:∀pre O A B,I pre O A->Fr (λk=>¬O k/\¬Y k) A B->I pre O B)
  (hIo:∀pre O A,I pre O A->∀k,O k->k<A.heap.size/\¬Y k/\k≠w.heap.size/\k≠w.heap.size+1) {O0:Nat->Prop} (h0:I [] O0 w) (a₁:α->Act)
  (hassign:∀(l:Nat) (x:α) (W:World) (K:Act->World->Prop),K (a₁ x) W ->
   assign.wpIn (F.inRound l) (n-1-1) P (Exit.then K (λ_ _ _=>False)) { tmps:=(ps.zip (encs x)).foldl (λt (p,v)=>t.setIfInBounds p v) a.tmps,defers:=[] } W)
  (hbody:∀(l:Nat) (pre:List α) (x:α) (O:Nat->Prop) (W:World),I pre O W->pre.length<N->w.heap.size+1<W.heap.size->body.wpIn (F.inRound l) (n-1-1) P (ownPostR I (pre++[x]) O W) (a₁ x) W)
  (hdone:∀(D:Nat) (xs:List α) (O:Nat->Prop) (W:World),w.heap.size<=D->D<w.heap.size+1->w.heap.size+1<W.heap.size->S xs->I xs O W->W.heap[D]?=some (.deferred (some []))->Q .normal { a with defers := { target :=.collected D,args := #[] } :: a.defers } W) :
  (Code.rangeFunc g ps assign body).wpIn F n P Q a w:=by
 refine wpIn_rangeFunc ?_
 intro fn hfn
 rw[hro]
 obtain⟨rec,hrec⟩:∃rec:LoopState->Option Code->Loop,rec=λst pe => { state:=st,pending:=pe,fn,tmps:=a.tmps,params:=ps,assign,body,defers:=w.heap.size }:=⟨_,rfl⟩
 obtain⟨W1,hW1⟩:∃W1,(w.alloc (.deferred (some []))).alloc (.loop (rec .ready none))=W1:=⟨_,rfl⟩
 have hL1:W1.heap[w.heap.size+1]?=some (.loop (rec .ready none)):=by
  rw[<- hW1];have:=World.alloc_heap_new (w.alloc (.deferred (some []))) (.loop (rec .ready none));rwa [World.size_alloc]at this
 have hK1:W1.heap[w.heap.size]?=some (.deferred (some [])):=by
  rw[<- hW1];exact(Below.heap_alloc _ _ _ (by simp)).trans (World.alloc_heap_new w _)
 have hbw:Below w.heap.size w W1:=by
  rw[<- hW1];exact(((Below.refl _ w).alloc (Nat.le_refl _) _).alloc (by simp) _)
 have hYl:¬Y (w.heap.size+1):=λh=>by have:=hY _ h;omega
 have hI1:I [] O0 W1:=hIa _ _ _ _ h0 (Fr.of hbw)
 have hb1:Below w0.heap.size w0 W1:=hb0.trans (hbw.mono hb0.size)
 refine⟨w.heap.size+1,[{ target :=.collected w.heap.size,args := #[] }],W1,{ target :=.fn (.func gf) lb,args := #[.func (.yield (w.heap.size+1)) #[] #[]] },W1,gf,
  #[.func (.yield (w.heap.size+1)) #[] #[]]++lb,W1,?_,?_,?_,?_,λ_=>h1,?_⟩
 ·rw[<- hW1,hrec];exact run_enterLoop_outer _ _ _ _ _
 ·simp only[resolve,hg]
  simp[go_sem]
 ·intro f' hf';simp[Target.leads]at hf';subst hf';exact hFg
 ·simp[invoke,go_sem,eg]
 ·obtain⟨J,hJ⟩:∃J:List α->(Nat->Prop)->World->Prop,J=λpre O W=>∃O1,(∀k,O k↔O1 k\/k=w.heap.size\/k=w.heap.size+1)/\I pre O1 W/\W.heap[w.heap.size+1]?=some (.loop (rec .ready none))/\W.heap[w.heap.size]?=some (.deferred (some [])):=⟨_,rfl⟩
  refine(hseq (w.heap.size+1) J (λk=>O0 k\/k=w.heap.size\/k=w.heap.size+1) W1 hb1 ?_ ?_ ?_ ?_).mono ?_
  ·subst hJ
   rintro pre O A B ⟨O1,e,hi,hl,hk⟩ hf
   have hA:=(Array.getElem?_eq_some_iff.1 hl).1
   refine⟨O1,e,hIa _ _ _ _ hi (hf.mono λk hk=>⟨λh=>hk.1 ((e k).2 (.inl h)),hk.2⟩),?_,?_⟩
   ·rw[hf.block _ hA (λh=>h.1 ((e _).2 (.inr (.inr rfl))))];exact hl
   ·rw[hf.block _ (by omega) (λh=>h.1 ((e _).2 (.inr (.inl rfl))))];exact hk
  ·subst hJ
   rintro pre O A ⟨O1,e,hi,hl,hk⟩ k hO
   have hA:=(Array.getElem?_eq_some_iff.1 hl).1
   rcases(e k).1 hO with h |rfl |rfl
   ·exact⟨(hIo _ _ _ hi k h).1,(hIo _ _ _ hi k h).2.1⟩
   ·exact⟨by omega,λh=>by have:=hY _ h;omega⟩
   ·exact⟨hA,λh=>by have:=hY _ h;omega⟩
  ·subst hJ
   rintro pre x O W ⟨O1,e,hi,hl,hk⟩ hlen
   have hlt:w.heap.size+1<W.heap.size:=(Array.getElem?_eq_some_iff.1 hl).1
   have hy:=run_yield (P:=P) (args:=encs x) hl (by rw[hrec];exact hps x)
   rw[hrec]at hy
   refine⟨fn,_,assign,body,hy,roundIn_of_wpIn hfn (hassign _ x W _ ⟨_,run_beginRound hl (by rw[hrec]),?_⟩)⟩
   obtain⟨W2,hW2⟩:∃W2,W.putObj (w.heap.size+1) (.loop { rec .ready none with state :=.busy })=W2:=⟨_,rfl⟩
   have hl2:W2.heap[w.heap.size+1]?=some (.loop { rec .ready none with state :=.busy }):=by rw[<- hW2];exact World.putObj_heap_same hlt
   have hk2:W2.heap[w.heap.size]?=some (.deferred (some [])):=by rw[<- hW2];exact(World.putObj_heap_other (by omega)).trans hk
   have hn1:¬O1 (w.heap.size+1):=λh=>(hIo _ _ _ hi _ h).2.2.2 rfl
   have hn0:¬O1 w.heap.size:=λh=>(hIo _ _ _ hi _ h).2.2.1 rfl
   have hi2:I pre O1 W2:=by rw[<- hW2];exact hIa _ _ _ _ hi (Fr.putObj _ _ _ ⟨hn1,hYl⟩)
   have hf2:Fr (λk=>k=w.heap.size+1) W W2:=by rw[<- hW2];exact Fr.putObj _ _ _ rfl
   have hz2:w.heap.size+1<W2.heap.size:=Nat.lt_of_lt_of_le hlt hf2.size
   have hW2':W.putObj (w.heap.size+1) (.loop { state :=.busy,pending:=none,fn,tmps:=a.tmps,params:=ps,assign,body,defers:=w.heap.size })=W2:=by rw[<- hW2,hrec]
   simp only[hrec]
   rw[hW2']
   refine wpIn_mono (hbody _ pre x O1 W2 hi2 hlen hz2) ?_
   rintro e' a3 W3 hp
   cases e' with
   |normal=>
    obtain⟨O',hi3,hO',hf3⟩:=hp
    have hl3:W3.heap[w.heap.size+1]?=some (.loop { rec .ready none with state :=.busy }):=(hf3.block _ hz2 hn1).trans hl2
    have hk3:W3.heap[w.heap.size]?=some (.deferred (some [])):=(hf3.block _ (by omega) hn0).trans hk2
    have hr:=run_endRound (P:=P) none hl3
    rw[hrec]at hr
    have hz3:=(Array.getElem?_eq_some_iff.1 hl3).1
    have hn1':¬O' (w.heap.size+1):=λh=>by
     rcases hO' _ h with h |h
     ·exact hn1 h
     ·omega
    refine⟨_,_,hr,rfl,λk=>O' k\/k=w.heap.size\/k=w.heap.size+1,⟨O',λ_=>Iff.rfl,?_,?_,?_⟩,?_,?_⟩
    ·exact hIa _ _ _ _ hi3 (Fr.putObj _ _ _ ⟨hn1',hYl⟩)
    ·exact(World.putObj_heap_same hz3).trans rfl
    ·exact(World.putObj_heap_other (by omega)).trans hk3
    ·rintro k (h |rfl |rfl)
     ·rcases hO' _ h with h |h
      ·exact .inl ((e k).2 (.inl h))
      ·exact .inr (Nat.le_trans hf2.size h)
     ·exact .inl ((e _).2 (.inr (.inl rfl)))
     ·exact .inl ((e _).2 (.inr (.inr rfl)))
    ·exact(hf2.mono λk h=>(e k).2 (.inr (.inr h))).trans ((hf3.mono λk h=>(e k).2 (.inl h)).trans (Fr.putObj _ _ _ ((e _).2 (.inr (.inr rfl)))))
   |ret=>exact hp.elim
   |exit id=>exact hp.elim
   |goto t=>exact hp.elim
   |panic ch=>exact hp.elim
   |outgrown=>exact hp.elim
  ·subst hJ
   exact⟨O0,λ_=>Iff.rfl,hI1,hL1,hK1⟩
  ·subst hJ
   rintro e W2 ⟨⟨v,rfl⟩,xs,O,hS,O1,he,hi,hl,hk⟩
   have hn1:¬O1 (w.heap.size+1):=λh=>(hIo _ _ _ hi _ h).2.2.2 rfl
   exact⟨none,_,by have:=run_endLoop (P:=P) hl (by rw[hrec];simp);rw[hrec]at this;exact this,hdone _ xs O1 _ (Nat.le_refl _) (Nat.lt_succ_self _) (by have:=(Array.getElem?_eq_some_iff.1 hl).1;simpa [World.putObj]using this) hS (hIa _ _ _ _ hi (Fr.putObj _ _ _ ⟨hn1,hYl⟩)) ((World.putObj_heap_other (by omega)).trans hk)⟩
end Go.Proofs.YtedkgofehbecmaaGreatDoor
