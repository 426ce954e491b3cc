/- PROVED here: parts Xa Xb Xc Xd of the claim. No condition but those in each theorem's own head. -/
import Derived.Test.YteecfjhjllajlaaGreatDoorM04
import Derived.Shelf.Strconv.Itoa3
import Derived.Shelf.Small.Wraps
import Derived.Test.YteecfjhjllajlaaGreatDoorProg
import Derived.ProofKit
import Derived.Shelf.Strings.BuilderK
import Derived.Lib.Hide
import Derived.RangeFuncRecord
import Derived.Test.YteecfjhjllajlaaGreatDoorM02
import Derived.Deep.LoopGhost
import Derived.Deep.Light
import Derived.BigQuiet
namespace Go.Proofs.YteecfjhjllajlaaGreatDoor
section
open Go Go.RowKit
open Tr (nth)
section
variable (l:List Tr.Nd)
def ndA (k:Int):Tr.Nd:=Tr.nth l k.toNat
def txA (k:Int):List UInt8:=(ndA l k).tx.data.toList
def kidA (k:Int)(i:Nat):Int:=(ndA l k).ks.getD i 0
def opT (ex:Int→List UInt8)(k:Int):List UInt8:=if (ndA l k).kd=27 then [40]++ex k++[41] else ex k
def exT:Nat→Int→List UInt8
 |0,_=>[]
 |f+1,p=>
  if (ndA l p).kd=20 then Lib.itoa (ndA l p).n
  else if (ndA l p).kd=21 then Lib.formatBool ((ndA l p).n==1)
  else if (ndA l p).kd=22 then txA l p
  else if (ndA l p).kd=23 then txA l p++[91]++exT f (kidA l p 0)++[93]
  else if (ndA l p).kd=24 then [108,101,110,32]++txA l p
  else if (ndA l p).kd=25 then [38]++txA l p
  else if (ndA l p).kd=26 then txA l p++opT l (exT f) (kidA l p 0)
  else if (ndA l p).kd=27 then opT l (exT f) (kidA l p 0)++[32]++txA l p++[32]++opT l (exT f) (kidA l p 1)
  else []
def tyT (n:Int):List UInt8:=if n=1 then [105,110,116] else if n=2 then [98,111,111,108] else if n=3 then [97,114,114] else [102,117,110]
def indT (d:Nat):List UInt8:=(List.replicate d [(32:UInt8),32]).flatten
def tydT (p:Int):List UInt8:=txA l p++[32]++tyT (ndA l p).n
def varT (d:Nat)(p:Int):List UInt8:=indT d++[118,97,114,32]++tydT l p++[59,10]
def comT:List (List UInt8)→List UInt8
 | []=>[]
 | [x]=>x
 |x :: y :: r=>x++[44,32]++comT (y :: r)
def lisT (xs:List (List UInt8)):List UInt8:=[40]++comT xs++[41]
def lnT (f:Nat)(p:Int):List UInt8:=
 if (ndA l p).kd=7 then txA l p++[32,61,32]++exT l f (kidA l p 0)
 else if (ndA l p).kd=8 then txA l p++[91]++exT l f (kidA l p 0)++[93]++[32,61,32]++exT l f (kidA l p 1)
 else if (ndA l p).kd=9 then txA l p++[32,61,32,105,110,32]++txA l (kidA l p 0)
 else if (ndA l p).kd=10 then [111,117,116,32]++txA l (kidA l p 0)++[32]++exT l f (kidA l p 1)
 else if (ndA l p).kd=11 then [105,102,32]++exT l f (kidA l p 0)
 else if (ndA l p).kd=12 then [119,104,105,108,101,32]++exT l f (kidA l p 0)
 else if (ndA l p).kd=13 then (if txA l p=[] then [] else txA l p++[32,61,32])++[99,97,108,108,32]++txA l (kidA l p 0)++lisT ((ndA l p).ks.tail.map (exT l f))
 else if (ndA l p).kd=14 then [114,101,116,117,114,110]++((ndA l p).ks.map fun k=>[32]++exT l f k).flatten
 else if (ndA l p).kd=15 then [116,104,114,111,119,32]++exT l f (kidA l p 0)
 else if (ndA l p).kd=16 then [116,114,121]
 else if (ndA l p).kd=17 then txA l p++[32,61,32,110,101,119,32]++exT l f (kidA l p 0)
 else []
def blkT (st:Nat→Int→List UInt8)(d:Nat)(p:Int)(locals:List Int):List UInt8:=
 [32,123,10]++(locals.map (varT l (d+1))).flatten++((ndA l p).ks.map (st (d+1))).flatten++indT d++[125]
def stT (F:Nat):Nat→Nat→Int→List UInt8
 |0,_,_=>[]
 |f+1,d,p=>indT d++lnT l F p ++
  (if (ndA l p).kd=11 then blkT l (stT F f) d (kidA l p 1) []++(if (ndA l (kidA l p 2)).ks=[] then [] else [32,101,108,115,101]++blkT l (stT F f) d (kidA l p 2) [])
  else if (ndA l p).kd=12 then blkT l (stT F f) d (kidA l p 1) []
  else if (ndA l p).kd=16 then blkT l (stT F f) d (kidA l p 0) []++[32,99,97,116,99,104,32]++txA l p++blkT l (stT F f) d (kidA l p 1) []
  else [59])++[10]
def prcT (F:Nat)(p:Int):List UInt8:=
 [112,114,111,99,32]++txA l p++lisT (((ndA l p).ks.filter fun k=>(ndA l k).kd==4).map (tydT l))++(if (ndA l p).n=0 then [] else [32]++tyT (ndA l p).n) ++
  blkT l (stT l F F) 0 ((ndA l p).ks.getLastD 0) ((ndA l p).ks.filter fun k=>(ndA l k).kd==5)++[10]
def pgmT (F:Nat)(p:Int):List UInt8:=((ndA l p).ks.map fun k=>if (ndA l k).kd=2 then varT l 0 k else prcT l F k).flatten
end
def Ahead (l:List Tr.Nd):Prop:=∀i (hi:i<l.length),∀k ∈ l[i].ks,0≤k∧k<(i:Int)
theorem ndA_eq {l:List Tr.Nd}{i:Nat}(hi:i<l.length):ndA l (i:Int)=l[i]:=by unfold ndA;rw[Int.toNat_natCast];exact Tr.nth_eq hi
end
section
set_option maxHeartbeats 2000000
set_option maxRecDepth 100000
open Go Go.RowKit
theorem size116:∃j,Tryz.prog.info? 116=some j∧j.size=2:=Option.map_eq_some_iff.1 (by kernel_rfl)
theorem under113:Tryz.prog.underlying 113=some (.pointer 116):=by kernel_rfl
theorem under207:Tryz.prog.underlying 207=some .unsafePointer:=by kernel_rfl
theorem lies118:liesAt Tryz.prog Tryz.prog.depth 118 (2 / Tryz.prog.cellsOf 118) 0 116 1=true:=by kernel_rfl
theorem copyCheck_pg (B b:Nat)(bs:List Value)(w:World)(h:Lib.IsBuilderF 118 5 B b bs w) :
  Calls Tryz.prog 244 #[.pointer (some ⟨b,0,none⟩)] w fun e w'=>e = .returned (.tuple #[])∧(Lib.BuilderAtF 118 5 B b (.pointer (some ⟨b,0,none⟩)) bs w'∧Below B w w'∧Lib.OthersKept 5 (some b) w w'):=by
 obtain⟨j,hj,hjs⟩:=size116
 rcases h with h |h
 ·have h0:=h.cell0
  have hsh:=h.shape
  have hfz:=h.frozen0
  go_enter Tryz.func244,Tryz.ntmps244
  go_wp2
  rw[Lib.run_to_unsafe w ⟨b,0,none⟩ under113 under207 hj (by rw[hjs];decide) hsh (Nat.zero_lt_succ 1)]
  simp only[Result.andThen]
  rw[Oper.upon_value]
  go_wp2
  rw[run_callFunc_extern Tryz.func282 (by kernel_rfl) (by kernel_rfl) (by kernel_rfl) (e:=Extern.AbiNoEscape.same) (by kernel_rfl)]
  rw[Lib.run_noEscape]
  simp only[Result.andThen]
  rw[Oper.upon_value]
  go_wp2
  rw[Lib.run_from_unsafe w ⟨b,0,none⟩ under207 under113 hj hsh lies118]
  simp only[Result.andThen]
  rw[Oper.upon_value]
  go_wp2
  go_end0
  exact⟨rfl,h.used _,(Below.refl B w).setCell (p:=⟨b,0,none⟩) h.1 _,(Lib.OthersKept.refl _ _ w).setCell ⟨b,0,none⟩ rfl _⟩
 ·have h0:=h.cell0
  go_enter Tryz.func244,Tryz.ntmps244
  go_wp2
  rw[Lib.run_neq_ptr_same w _ under113 hj]
  go_wp2
  go_end0
  exact⟨rfl,h,Below.refl B _,Lib.OthersKept.refl _ _ _⟩
theorem infoU8:(Tryz.prog.info? 5).map (fun i=>(i.zero,i.size,i.bytes))=some (some (.int .u8 0),1,1):=by kernel_rfl
theorem under114:Tryz.prog.underlying 114=some (.slice 5):=by kernel_rfl
def Pg (B b:Nat)(t:List UInt8)(w:World):Prop:=Lib.IsBuilderF 118 5 B b (Lib.byteCells t) w
def Kp (B b:Nat)(w w':World):Prop:=Below B w w'∧Lib.OthersKept 5 (some b) w w'
theorem Kp.refl (B b:Nat)(w:World):Kp B b w w:=⟨Below.refl _ _,Lib.OthersKept.refl _ _ _⟩
theorem Kp.trans {B b:Nat}{u v w:World}(h:Kp B b u v)(k:Kp B b v w):Kp B b u w:=⟨h.1.trans k.1,h.2.trans k.2⟩
def WrPost (B b:Nat)(t:List UInt8)(v:Value)(w:World)(e:Ending)(w':World):Prop:=e = .returned v∧Pg B b t w'∧Kp B b w w'
theorem at_size {T e:TypeId}{B b:Nat}{p:Value}{bs:List Value}{w:World}(h:Lib.BuilderAtF T e B b p bs w):b<w.heap.size:=by
 obtain⟨_,v,hb,_⟩:=h
 exact(Array.getElem?_eq_some_iff.1 hb).1
theorem Pg.lt {B b:Nat}{t:List UInt8}{w:World}(h:Pg B b t w):b<w.heap.size:=by
 rcases h with h |h<;>exact at_size h
theorem writeString_pg (B b:Nat)(t:List UInt8)(s:ByteArray)(w:World)(h:Pg B b t w)(hlen:t.length+s.size≤140737488355328) :
  Calls Tryz.prog 189 #[.pointer (some ⟨b,0,none⟩),.string s] w (WrPost B b (t++s.data.toList) (.tuple #[.int .i64 s.size,.nilIface]) w):=by
 obtain⟨i0,hi,hz0,hz1,hz2⟩:=info_parts infoU8
 have hBw:B≤w.heap.size:=by
  have h1:=h.lt
  rcases h with h |h<;>(have:=h.1;omega)
 have HC:=Lib.hid (copyCheck_pg B b (Lib.byteCells t) w h)
 have HT:=Lib.hid (show(Lib.byteCells t).length=t.length from Lib.byteCells_length t)
 clear h
 go_enter Tryz.func189,Tryz.ntmps189
 go_wp2_with (go_at_call 244;refine HC.out.mono ?_)
 rintro e w1 ⟨rfl,h1,hb1,hk1⟩
 have hlt:=at_size h1
 obtain⟨hB,v,hbk,hown,hne⟩:=h1
 have c0:w1.cell? ⟨b,0,none⟩=some (.pointer (some ⟨b,0,none⟩)):=by rw[Lib.cell_of_heap hbk];rfl
 have c1:w1.cell? ⟨b,1,none⟩=some v:=by rw[Lib.cell_of_heap hbk];rfl
 go_wp2_with (at_builtin;refine Lib.wpList_append_own_stringF _ rfl _ _ 114 9 rfl B 5 i0 under114 Tryz.underlying9 hi hz0 hz1 hz2 _ _ _ rfl hown s rfl ?c3 ?c4 ?c5 ?_)
 case c3=>unfold maxLen;have:=HT.out;omega
 case c4=>have:=HT.out;omega
 case c5=>have:=hb1.size;omega
 intro v' w2 hown' hgrow _
 have hb2:w2.heap[b]?=some (.cells #[.pointer (some ⟨b,0,none⟩),v] 118 (0,0)):=by
  rw[hgrow.block b hlt (fun e=>hne e.symm)]
  exact hbk
 have d0:w2.cell? ⟨b,0,none⟩=some (.pointer (some ⟨b,0,none⟩)):=by rw[Lib.cell_of_heap hb2];rfl
 have d1:w2.cell? ⟨b,1,none⟩=some v:=by rw[Lib.cell_of_heap hb2];rfl
 have f1:w2.frozen? ⟨b,1,none⟩=false:=Lib.frozen_of_heap hb2 1
 obtain⟨ao,n',cap,rfl⟩:∃ao n' cap,v' = .slice ao n' cap:=by
  rcases hown'.2 with⟨hv,_⟩ |⟨g,cap,cur,fz,hv,_⟩
  ·exact⟨_,_,_,hv⟩
  ·exact⟨_,_,_,hv⟩
 have HF:=Lib.hid (And.intro hB (And.intro hb2 (And.intro hown' (And.intro hgrow (And.intro hown (And.intro hb1 hk1))))))
 clear hb2 hown' hgrow hown hb1 hk1 hbk c0 c1
 go_wp2
 go_ret2
 obtain⟨hB,hb2,hown',hgrow,hown,hb1,hk1⟩:=HF.out
 refine⟨rfl,.inr ?_,?_,(hk1.grown hgrow (Lib.ownsRowF_kind hown)).setCell ⟨b,1,none⟩ rfl _⟩
 ·have:=Lib.BuilderAtF.put (T:=118) (e:=5) hB hb2 (bs':=Lib.byteCells t++Lib.strCells s) (by simpa [Lib.strCells_length]using hown') (by decide)
  rw[Lib.byteCells_append]
  exact this
 ·exact(hb1.grown hgrow (by have:=hb1.size;omega) (fun k hk=>(hown.lt k hk).1)).setCell (p:=⟨b,1,none⟩) hB _
theorem under163:Tryz.prog.underlying 163=some (.pointer 5):=by kernel_rfl
theorem cellsU8:Tryz.prog.cellsOf 5=1:=by kernel_rfl
theorem string_pg (B b:Nat)(t:List UInt8)(w:World)(h:Pg B b t w)(h0:t≠[]):Calls Tryz.prog 118 #[.pointer (some ⟨b,0,none⟩)] w (WrPost B b t (.string ⟨t.toArray⟩) w):=by
 obtain⟨p,hp,hAt⟩:∃p,(p = .pointer none∨p = .pointer (some ⟨b,0,none⟩))∧Lib.BuilderAtF 118 5 B b p (Lib.byteCells t) w:=by
  rcases h with h |h
  ·exact⟨_,.inl rfl,h⟩
  ·exact⟨_,.inr rfl,h⟩
 obtain⟨hB,v,hbk,hown,hne⟩:=hAt
 have hl0:t.length≠0:=by simpa using h0
 rw[Lib.byteCells_length]at hown
 obtain⟨g,cap,cur,fz,rfl,hbg,hg,hcm,hcs,hnc⟩:∃g cap cur fz,v = .slice (some ⟨g,0,none⟩) t.length cap∧B≤g∧w.heap[g]?=some (.cells cur 5 fz)∧cap≤maxLen∧cur.size=cap*1∧t.length≤cap:=by
  rcases hown.2 with⟨_,hz⟩ |⟨g,cap,cur,fz,hv,r1,r2,_,r4,r5,r6,_⟩
  ·exact absurd hz hl0
  ·exact⟨g,cap,cur,fz,hv,r1,r2,r5,r6,r4⟩
 have c1:w.drew.cell? ⟨b,1,none⟩=some (.slice (some ⟨g,0,none⟩) t.length cap):=by
  have:w.drew.heap[b]?=some (.cells #[p,.slice (some ⟨g,0,none⟩) t.length cap] 118 (0,0)):=hbk
  rw[Lib.cell_of_heap this];rfl
 have hSD:(Builtin.unsafeSliceData_ #[114] 163 #[.slice (some ⟨g,0,none⟩) t.length cap]).run Tryz.prog w.drew = .ok (.pointer (some ⟨g,0,none⟩)) w.drew:=
  Lib.run_unsafeSliceData_row _ _ _ _ _ _ (by omega)
 have hUS:(Builtin.unsafeString_ #[163,3] 9 #[.pointer (some ⟨g,0,none⟩),.int .i64 t.length]).run Tryz.prog w.drew = .ok (.string ⟨t.toArray⟩) (w.drew.freeze ⟨g,0,none⟩ t.length):=by
  refine Lib.run_unsafeString_row w.drew 163 3 9 5 under163 cellsU8 g cur.size (by have hg':w.drew.heap[g]?=some (.cells cur 5 fz):=hg;simp[World.shape?,hg']) t h0 (by omega) (by unfold maxLen at hcm;omega) ?_
  intro j x hx
  exact hown.cells (g:=g) rfl j (.int .u8 x.toNat) (by simp[Lib.byteCells,hx])
 have hkeep:Pg B b t (w.drew.freeze ⟨g,0,none⟩ t.length):=by
  have hA:Lib.BuilderAtF 118 5 B b p (Lib.byteCells t) w.drew:=⟨hB,_,hbk,by rw[Lib.byteCells_length];exact hown,hne⟩
  have hF:=hA.froze (g:=g) (cap:=cap) (by rw[Lib.byteCells_length];exact c1)
  rw[Lib.byteCells_length]at hF
  rcases hp with rfl |rfl
  ·exact .inl hF
  ·exact .inr hF
 have mixed:Tryz.prog.follows .mixedOrders=true:=by kernel_rfl
 go_enter Tryz.func118,Tryz.ntmps118
 go_wp2
 go_region_o
 all_goals (go_wp2;go_ret;exact⟨rfl,hkeep,Lib.below_freeze (Below.drew (Below.refl B w)) (p:=⟨g,0,none⟩) hbg _,((Lib.OthersKept.refl _ _ w).drew).freeze ⟨g,0,none⟩ _ ⟨cur,fz,hg⟩⟩)
theorem new_pg (w:World):Pg w.heap.size w.heap.size [] (w.alloc (.cells #[.pointer none,.slice none 0 0] 118)):=by
 refine .inl ⟨Nat.le_refl _,.slice none 0 0,?_,⟨rfl,.inl ⟨rfl,rfl⟩⟩,by intro q;cases q⟩
 exact(World.alloc_heap_new w _ :)
theorem string_new (b:Nat)(w:World)(hbk:w.heap[b]?=some (.cells #[.pointer none,.slice none 0 0] 118 (0,0))):Calls Tryz.prog 118 #[.pointer (some ⟨b,0,none⟩)] w fun e w'=>e = .returned (.string ⟨#[]⟩)∧Below w.heap.size w w':=by
 have c1:w.drew.cell? ⟨b,1,none⟩=some (.slice none 0 0):=by
  have:w.drew.heap[b]?=some (.cells #[.pointer none,.slice none 0 0] 118 (0,0)):=hbk
  rw[Lib.cell_of_heap this];rfl
 have hSD:(Builtin.unsafeSliceData_ #[114] 163 #[.slice none 0 0]).run Tryz.prog w.drew = .ok (.pointer none) w.drew:=rfl
 have hUS:=fun W q=>Lib.run_unsafeString_none (P:=Tryz.prog) W 163 3 9 q
 have mixed:Tryz.prog.follows .mixedOrders=true:=by kernel_rfl
 go_enter Tryz.func118,Tryz.ntmps118
 go_wp2
 go_region_o
 all_goals (go_wp2;go_ret;exact⟨rfl,Below.drew (Below.refl _ w)⟩)
end
section
set_option maxHeartbeats 2000000
set_option maxRecDepth 100000
open Go Go.RowKit
open Tr (Bx heap1 bt)
def bsX (l:List UInt8):ByteArray:=⟨l.toArray⟩
theorem bsX_list (l:List UInt8):(bsX l).data.toList=l:=by simp[bsX]
def Sx (w:World)(k:Nat)(ps:List (List UInt8)):Prop:=Bx w k 9 (ps.map fun x=>Value.string (bsX x))
theorem Bx.kp {w w':World}{B b k:Nat}{t:TypeId}{l:List Value}(h:Bx w k t l)(hk:Kp B b w w')(hb:k≠b)(ht:t≠5):Bx w' k t l:=
 hk.2 k _ h (fun q=>hb (Option.some.inj q)) (fun c fz q=>ht (by injection q))
theorem flat_at (ps:List (List UInt8))(i:Nat)(h:i<ps.length):ps.flatten.length=(ps.take i).flatten.length+ps[i].length+(ps.drop (i+1)).flatten.length:=by
 have e:ps=ps.take i++ps[i] :: ps.drop (i+1):=by rw[← List.drop_eq_getElem_cons h,List.take_append_drop]
 have:=congrArg (fun z=>z.flatten.length) e
 simp only[List.flatten_append,List.flatten_cons,List.length_append]at this
 omega
def WrAdd (B b:Nat)(t:List UInt8)(w:World)(e:Ending)(w':World):Prop:=WrPost B b t (.tuple #[]) w e w'
theorem add_pg (B b k n c:Nat)(t:List UInt8)(ps:List (List UInt8))(w:World)(h:Pg B b t w)(hS:Sx w k ps)(hn:n=ps.length)(hk:k≠b)(hl:t.length+ps.flatten.length≤140737488355328)(hn2:n≤1000000) :
  Calls Tryz.prog 117 #[.pointer (some ⟨b,0,none⟩),.slice (some ⟨k,0,none⟩) n c] w (WrAdd B b (t++ps.flatten) w):=by
 have H:=Lib.hid h
 have HS:=Lib.hid hS
 have HN:=Lib.hid hn
 have HL:=Lib.hid hl
 have HK:=Lib.hid hk
 clear h hS hn hl hk
 go_enter Tryz.func117,Tryz.ntmps117
 go_wp2
 go_loopg [5,8] n (fun g _ a8 wr=>∃i:Nat,a8 = .int .i64 (i:Int)∧i≤n∧g=n-i∧Pg B b (t++(ps.take i).flatten) wr∧Kp B b w wr)
 case atStart=>exact⟨0,rfl,Nat.zero_le _,rfl,by simpa using H.out,Kp.refl _ _ _⟩
 case round=>
  obtain⟨i,rfl,hi,rfl,hp,hkp⟩:=hrel
  have HP:=Lib.hid hp
  have HQ:=Lib.hid hkp
  by_cases hlt:i<n
  ·have hlz:(i:Int)<(n:Int):=by omega
   have hip:i<ps.length:=by rw[← HN.out];exact hlt
   have hb:=Bx.kp HS.out hkp HK.out (by decide)
   obtain⟨y,hy⟩:∃y,y=bsX ps[i]:=⟨_,rfl⟩
   have c0:wr.cell? ⟨k,i,none⟩=some (.string y):=(hb.cell i).trans (by rw[List.getElem?_map,List.getElem?_eq_getElem hip,hy];rfl)
   have hfl:=flat_at ps i hip
   have hx:(bsX ps[i]).size=ps[i].length:=rfl
   have HC:=writeString_pg B b (t++(ps.take i).flatten) (bsX ps[i]) wr hp (by rw[hx,List.length_append];have:=HL.out;omega)
   rw[bsX_list,List.append_assoc,show(ps.take i).flatten++ps[i]=(ps.take (i+1)).flatten by rw[List.take_succ_eq_append_getElem hip,List.flatten_append];simp,← hy]at HC
   have HC:=Lib.hid HC
   clear hp hkp hb hfl hx hy hip
   go_wp2_with (go_at_call 189;refine HC.out.mono ?_)
   rintro e w1 ⟨rfl,hp1,hk1⟩
   have HP1:=Lib.hid hp1
   have HK1:=Lib.hid hk1
   clear hp1 hk1
   go_wp2
   go_roundg (n-(i+1))
   case measure=>go_light;omega
   case rel=>
    go_light
    exact⟨i+1,by go_num,by omega,rfl,HP1.out,HQ.out.trans HK1.out⟩
  ·obtain rfl:i=n:=by omega
   have hlz:¬(i:Int)<(i:Int):=by omega
   clear hp hkp
   go_wp2
   go_end0
   have:=HP.out
   rw[List.take_of_length_le (by rw[← HN.out];exact Nat.le_refl _)]at this
   exact⟨rfl,this,HQ.out⟩
end
section
set_option maxHeartbeats 2000000
set_option maxRecDepth 100000
open Go Go.RowKit
open Tr (Bx heap1 bt Nds Ints)
theorem Pg.alloc {B b:Nat}{t:List UInt8}{w:World}(h:Pg B b t w)(o:Obj):Pg B b t (w.alloc o):=Lib.IsBuilderF.alloc h o
theorem Pg.base {B b:Nat}{t:List UInt8}{w:World}(h:Pg B b t w):B≤b:=by rcases h with h |h<;>exact h.1
theorem Pg.bw {B b:Nat}{t:List UInt8}{w:World}(h:Pg B b t w):B≤w.heap.size:=by have:=h.lt;have:=h.base;omega
theorem Kp.alloc {B b:Nat}{w w':World}(h:Kp B b w w')(hB:B≤w'.heap.size)(o:Obj):Kp B b w (w'.alloc o):=⟨h.1.alloc hB o,h.2.alloc o⟩
theorem bsX_of (s:ByteArray):bsX s.data.toList=s:=by cases s;simp[bsX]
def PV (A:Option Addr)(n c b:Nat)(d:Int):Value :=.agg #[.slice A n c,.func (.func 117) #[.pointer (some ⟨b,0,none⟩)] #[],.int .i64 d]
theorem write_new (B b:Nat)(t:List UInt8)(ps:List (List UInt8))(w:World)(h:Pg B b t w)(hl:t.length+ps.flatten.length≤140737488355328)(hn:ps.length≤1000000)(n:Nat)(hnn:n=ps.length)(vs:Array Value)(hv:vs=(ps.map fun x=>Value.string (bsX x)).toArray)(g:Nat)(hg:g=w.heap.size) :
  Calls Tryz.prog 117 #[.pointer (some ⟨b,0,none⟩),.slice (some ⟨g,0,none⟩) n n] (w.alloc (.cells vs 9)) fun e w'=>e = .returned (.tuple #[])∧Pg B b (t++ps.flatten) w'∧Kp B b w w':=by
 subst hv hg
 have hS:Sx (w.alloc (.cells (ps.map fun x=>Value.string (bsX x)).toArray 9)) w.heap.size ps:=Bx.new w 9 _
 refine(add_pg B b w.heap.size n n t ps _ (h.alloc _) hS hnn (by have:=h.lt;omega) hl (by omega)).mono ?_
 rintro e w' ⟨h1,h2,h3⟩
 exact⟨h1,h2,((Kp.refl B b w).alloc h.bw _).trans h3⟩
theorem node_at {w0 w:World}{A:Option Addr}{l:List Tr.Nd}(hN:Nds w0 A l)(hb:Below w0.heap.size w0 w)(p:Nat)(hp:p<l.length):∃bA off K c,A=some ⟨bA,off,none⟩∧bA<w.heap.size∧w.cell? ⟨bA,off+p*5,none⟩=some (.int .i64 l[p].kd)∧w.cell? ⟨bA,off+p*5+1,none⟩=some (.int .i64 l[p].n) ∧
  w.cell? ⟨bA,off+p*5+2,none⟩=some (.int .i64 l[p].pl)∧w.cell? ⟨bA,off+p*5+3,none⟩=some (.string l[p].tx)∧w.cell? ⟨bA,off+p*5+4,none⟩=some (.slice K l[p].ks.length c)∧Ints w0 K l[p].ks:=by
 obtain⟨bA,off,rfl,hl,hc⟩:=hN (by omega)
 obtain⟨K,c,c0,c1,c2,c3,c4,hK⟩:=hc p hp
 exact⟨bA,off,K,c,rfl,Nat.lt_of_lt_of_le hl hb.size,(hb.cell (p:=⟨bA,off+p*5,none⟩) hl).trans c0,(hb.cell (p:=⟨bA,off+p*5+1,none⟩) hl).trans c1,(hb.cell (p:=⟨bA,off+p*5+2,none⟩) hl).trans c2,(hb.cell (p:=⟨bA,off+p*5+3,none⟩) hl).trans c3,(hb.cell (p:=⟨bA,off+p*5+4,none⟩) hl).trans c4,hK⟩
structure ExN (l:List Tr.Nd):Prop where
 one:∀p:Nat,p<l.length→(ndA l p).kd=23∨(ndA l p).kd=26→∃k:Nat,(ndA l p).ks=[(k:Int)]∧k<p∧Tr.expB (ndA l k).kd=true
 two:∀p:Nat,p<l.length→(ndA l p).kd=27→∃k j:Nat,(ndA l p).ks=[(k:Int),(j:Int)]∧k<p∧j<p∧Tr.expB (ndA l k).kd=true∧Tr.expB (ndA l j).kd=true
 num:∀p:Nat,p<l.length→(ndA l p).kd=20→0≤(ndA l p).n∧(ndA l p).n≤9223372036854775807
structure Px0 (w0:World) (A:Option Addr) (l:List Tr.Nd) (n:Nat):Prop where
 nds:Nds w0 A l
 len:n=l.length
 few:n≤4000
 ex:ExN l
 tab:∀w',Below w0.heap.size w0 w'→Lib.TabIs Tryz.prog w' "internal/strconv.uint64pow10" .u64 Lib.pow10Tab
def RecE (w0:World)(A:Option Addr)(l:List Tr.Nd)(n c b:Nat)(f:Nat):Prop:=∀(p:Nat) (d:Int) (t:List UInt8) (w:World),p<f→p<n→Tr.expB (ndA l p).kd=true→Below w0.heap.size w0 w→Pg w0.heap.size b t w→t.length+(exT l f p).length≤140737488355328 →
 Calls Tryz.prog 66 #[PV A n c b d,.int .i64 (p:Int)] w (WrPost w0.heap.size b (t++exT l f p) (.tuple #[]) w)
theorem Kp.w0 {w0 w w':World}{b:Nat}(h:Below w0.heap.size w0 w)(k:Kp w0.heap.size b w w'):Below w0.heap.size w0 w':=h.trans k.1
theorem operand_pg {w0:World}{A:Option Addr}{l:List Tr.Nd}{n c b f:Nat}(hx:Px0 w0 A l n)(hr:RecE w0 A l n c b f)(d:Int)(p:Nat)(t:List UInt8)(w:World)(hpf:p<f)(hp:p<n)(he:Tr.expB (ndA l p).kd=true)(hb:Below w0.heap.size w0 w)(h:Pg w0.heap.size b t w)
  (hl:t.length+(opT l (exT l f) p).length≤140737488355328):Calls Tryz.prog 126 #[PV A n c b d,.int .i64 (p:Int)] w (WrPost w0.heap.size b (t++opT l (exT l f) p) (.tuple #[]) w):=by
 have hpl:p<l.length:=by rw[← hx.len];exact hp
 obtain⟨bA,off,K,cK,rfl,hlt,c0,z1,z2,z3,z4,z5⟩:=node_at hx.nds hb p hpl
 clear z1 z2 z3 z4 z5
 rw[← ndA_eq hpl]at c0
 have hpz:(p:Int)<(n:Int):=by omega
 obtain⟨PB,hPB⟩:∃PB:List Value,PB=[.slice (some ⟨bA,off,none⟩) n c,.func (.func 117) #[.pointer (some ⟨b,0,none⟩)] #[],.int .i64 d]:=⟨_,rfl⟩
 have H:=Lib.hid h
 have HB:=Lib.hid hb
 have hbw:=h.bw
 have hbl:=h.lt
 unfold opT at hl ⊢
 by_cases hk:(ndA l p).kd=27
 ·rw[if_pos hk]at hl ⊢
  rw[hk]at c0
  have HR:=Lib.hid (fun t' w' (q:Below w0.heap.size w0 w') (h':Pg w0.heap.size b t' w') (hl':t'.length+(exT l f p).length≤140737488355328)=>hr p d t' w' hpf hp he q h' hl')
  generalize exT l f p=y at *
  have HL:=Lib.hid hl
  have HW1:=Lib.hid ((Kp.refl w0.heap.size b w).alloc hbw (.cells PB.toArray 73))
  have HX1:=Lib.hid (Bx.new w 73 PB)
  unfold PV at HR
  unfold PV
  clear hk he hr hx hb h hl hpl hpf
  rw[hPB]at HW1 HX1
  clear hPB
  go_enter Tryz.func126,Tryz.ntmps126
  go_wp2_with (go_at_call 117;refine(write_new w0.heap.size b t [[40]] _ (H.out.alloc _) (by simp;have:=HL.out;simp at this;omega) (by simp) 1 rfl _ (by rfl) _ (by simp[World.size_alloc])).mono ?_)
  rintro e w1 ⟨rfl,hp1,hk1⟩
  have HX2:=Lib.hid (Bx.kp HX1.out hk1 (by omega) (by decide))
  have HP2:=Lib.hid hp1
  have HW2:=Lib.hid (HW1.out.trans hk1)
  clear HX1 HW1 hp1 hk1
  have e0:=(HX2.out.cell 0).trans rfl
  have e1:=(HX2.out.cell 1).trans rfl
  have e2:=(HX2.out.cell 2).trans rfl
  go_wp2_with (go_at_call 66;refine(HR.out _ _ (Kp.w0 HB.out HW2.out) HP2.out (by simp;have:=HL.out;simp at this;omega)).mono ?_)
  rintro e w2 ⟨rfl,hp2,hk2⟩
  have HX3:=Lib.hid (Bx.kp HX2.out hk2 (by omega) (by decide))
  have HP3:=Lib.hid hp2
  have HW3:=Lib.hid (HW2.out.trans hk2)
  clear HX2 HW2 HP2 hp2 hk2 e0 e1 e2
  have e1:=(HX3.out.cell 1).trans rfl
  go_wp2_with (go_at_call 117;refine(write_new w0.heap.size b _ [[41]] _ HP3.out (by simp;have:=HL.out;simp at this;omega) (by simp) 1 rfl _ (by rfl) _ rfl).mono ?_)
  rintro e w3 ⟨rfl,hp3,hk3⟩
  have HP4:=Lib.hid hp3
  have HW4:=Lib.hid (HW3.out.trans hk3)
  clear HX3 HW3 HP3 hp3 hk3 e1
  go_wp2
  go_end0
  exact⟨rfl,by simpa using HP4.out,HW4.out⟩
 ·rw[if_neg hk]at hl ⊢
  have HR:=Lib.hid (fun w' (q:Below w0.heap.size w0 w') (h':Pg w0.heap.size b t w')=>hr p d t w' hpf hp he q h' hl)
  have HW1:=Lib.hid ((Kp.refl w0.heap.size b w).alloc hbw (.cells PB.toArray 73))
  have dk:((ndA l p).kd != 27)=true:=by rw[bne_iff_ne];exact hk
  have dk2:((ndA l p).kd==27)=false:=by rw[beq_eq_false_iff_ne];exact hk
  generalize (ndA l p).kd=kd at *
  unfold PV at HR
  unfold PV
  clear hk he hr hx hb h hl hpl hpf
  rw[hPB]at HW1
  clear hPB
  go_enter Tryz.func126,Tryz.ntmps126
  go_wp2_with (go_at_call 66;refine(HR.out _ (Kp.w0 HB.out HW1.out) (H.out.alloc _)).mono ?_)
  rintro e w2 ⟨rfl,hp2,hk2⟩
  have HP:=Lib.hid hp2
  have HK:=Lib.hid (HW1.out.trans hk2)
  clear hp2 hk2
  go_wp2
  go_end0
  exact⟨rfl,HP.out,HK.out⟩
end
end Go.Proofs.YteecfjhjllajlaaGreatDoor
