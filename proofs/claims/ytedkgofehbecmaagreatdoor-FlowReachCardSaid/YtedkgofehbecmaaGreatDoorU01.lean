/- PROVED here: parts N01 of the claim. No condition but those in each theorem's own head. -/
import Derived.Test.YtedkgofehbecmaaGreatDoorProg
import Derived.Tactics
import Derived.Tactics2
import Derived.WalkKit
import Derived.IntWalk
import Derived.KernelRfl
import Derived.Lib.Hide
import Derived.Below
import Derived.Deep.Draws
import Derived.Deep.QuietTactic
import Derived.BigQuiet
import Derived.StillTailTactics
import Derived.Deep.DeepCutAuto
import Derived.Laws.OwnMore
import Derived.Laws.Rows
import Derived.OrdersHeld
import Derived.Deep.RegionWith
import Derived.Maps.AppendAt
import Derived.Shelf.Small.Wraps
import Derived.Shelf.Strconv.Itoa0
import Derived.Shelf.Strconv.ParseIntEmpty
import Derived.Shelf.LaysM
import Derived.Shelf.Strconv.Clone
import Derived.Shelf.Strconv.SyntaxError
import Derived.Shelf.LaysC
import Derived.Shelf.Strconv.ToError
import Derived.Shelf.Strconv.Lower
import Derived.Shelf.Strconv.ParseUint10
import Derived.Shelf.Strconv.ParseUint10Empty
import Derived.Shelf.Strconv.ParseUint10Any
import Derived.Shelf.Strconv.ParseInt10
import Derived.Shelf.Strconv.RangeError
import Derived.Shelf.Strconv.ToErrorRange
import Derived.Shelf.Strconv.ParseUintEmpty
import Derived.Shelf.Strconv.ParseUint10b64
import Derived.Shelf.Strconv.ParseUint10b32
import Derived.Shelf.Strconv.ParseUint10b16
import Derived.Shelf.Strconv.ParseUint10b8
import Derived.Shelf.Strconv.ParseUint10At
import Derived.Shelf.Strconv.ParseInt10At64
import Derived.Shelf.Strconv.ParseInt10At32
import Derived.Shelf.Strconv.ParseInt10At16
import Derived.Shelf.Strconv.ParseInt10At8
import Derived.Shelf.Strconv.ParseInt10All
import Derived.Shelf.Strconv.ParseIntPublic10
import Derived.Shelf.Bits.Mul64
import Derived.Test.YtedkgofehbecmaaGreatDoorRows
import Derived.ProofKit
import Derived.LaidMore
import Derived.OpenShut
import Derived.Stop.Joined
import Derived.Carry
import Derived.Lib.LaidTab
import Derived.ChangeBears2
import Derived.LaidLaws
namespace Go.Proofs.YtedkgofehbecmaaGreatDoor.Tk
open Go.Lib (hid)
section
open Go Go.RowKit
theorem ret_int {k:IntKind}{a b:Int}(h:a=b):Ending.returned (.int k a) = .returned (.int k b):=by rw[h]
theorem ret_bool {a b:Bool}(h:a=b):Ending.returned (.bool a) = .returned (.bool b):=by rw[h]
theorem gen_world {P:Program}{c:Code}{Q:Exit->Act->World->Prop}{a:Act}{w:World}(R:World->Prop)(h:R w)(k:∀w',R w'->Code.wp P c Q a w'):Code.wp P c Q a w:=k w h
theorem heap1 (w:World)(A:Obj):Below w.heap.size w (w.alloc A):=(Below.refl _ _).alloc (Nat.le_refl _) _
theorem bt {a b c:World}(h:Below a.heap.size a b)(k:Below b.heap.size b c):Below a.heap.size a c:=h.trans (k.mono h.size)
theorem below_drewN {B:Nat}{a w:World}(h:Below B a w)(n:Nat):Below B a (w.drewN n):=⟨h.os,h.tape,h.output,h.size,h.block⟩
def spB (c:UInt8):Bool:=c.toNat==32 || c.toNat==9 || c.toNat==10
def cmB (c:UInt8):Bool:=c.toNat==35
def dgB (c:UInt8):Bool:=decide (48<=c.toNat)&&decide (c.toNat<=57)
def wdB (c:UInt8):Bool:=decide (97<=c.toNat)&&decide (c.toNat<=122) || decide (65<=c.toNat)&&decide (c.toNat<=90) || dgB c || c.toNat==95
theorem space_any (c:UInt8)(w:World):Calls Tryz.prog 169 #[.int .u8 (c.toNat:Int)] w λe w'=>e = .returned (.bool (spB c))/\w=w':=by
 by_cases h1:(c.toNat:Int)=32
 ·have hb:spB c=true:=by unfold spB;simp;omega
  have q1:((c.toNat:Int)==32)=true:=by simpa using h1
  rw[hb];clear hb h1
  go_enter Tryz.func169,Tryz.ntmps169
  go_wp2
  go_ret
  simp
 ·have q1:((c.toNat:Int)==32)=false:=by simpa using h1
  by_cases h2:(c.toNat:Int)=9
  ·have hb:spB c=true:=by unfold spB;simp;omega
   have q2:((c.toNat:Int)==9)=true:=by simpa using h2
   rw[hb];clear hb h1 h2
   go_enter Tryz.func169,Tryz.ntmps169
   go_wp2
   go_ret
   simp
  ·have q2:((c.toNat:Int)==9)=false:=by simpa using h2
   have hb:spB c=((c.toNat:Int)==10):=by
    unfold spB;rw[Bool.eq_iff_iff];simp;omega
   rw[hb];clear hb h1 h2
   generalize hq:((c.toNat:Int)==10)=b at *
   go_enter Tryz.func169,Tryz.ntmps169
   go_wp2
   go_ret
   simp
theorem comment_any (c:UInt8)(w:World):Calls Tryz.prog 170 #[.int .u8 (c.toNat:Int)] w λe w'=>e = .returned (.bool (cmB c))/\w=w':=by
 have hb:cmB c=((c.toNat:Int)==35):=by unfold cmB;rw[Bool.eq_iff_iff];simp;omega
 rw[hb];clear hb
 generalize hq:((c.toNat:Int)==35)=b at *
 go_enter Tryz.func170,Tryz.ntmps170
 go_wp2
 go_ret
 simp
theorem digit_any (c:UInt8)(w:World):Calls Tryz.prog 247 #[.int .u8 (c.toNat:Int)] w λe w'=>e = .returned (.bool (dgB c))/\w=w':=by
 by_cases h1:48<=(c.toNat:Int)
 ·have q1:decide (48<=(c.toNat:Int))=true:=by simpa using h1
  have hb:dgB c=decide ((c.toNat:Int)<=57):=by unfold dgB;rw[Bool.eq_iff_iff];simp;omega
  rw[hb];clear hb
  by_cases h2:(c.toNat:Int)<=57
  ·rw[decide_eq_true h2]
   go_enter Tryz.func247,Tryz.ntmps247
   go_wp2
   go_ret
   simp
  ·rw[decide_eq_false h2]
   go_enter Tryz.func247,Tryz.ntmps247
   go_wp2
   go_ret
   simp
 ·have hb:dgB c=false:=by unfold dgB;rw[decide_eq_false (by omega)];rfl
  rw[hb];clear hb
  go_enter Tryz.func247,Tryz.ntmps247
  go_wp2
  go_ret
  simp
end
section
open Go Go.RowKit
theorem five (c:UInt8):(97<=(c.toNat:Int)/\(c.toNat:Int)<=122)\/122<(c.toNat:Int)\/(65<=(c.toNat:Int)/\(c.toNat:Int)<=90)\/(c.toNat:Int)<65\/(90<(c.toNat:Int)/\(c.toNat:Int)<97):=by omega
theorem word_any (c:UInt8)(w:World):Calls Tryz.prog 244 #[.int .u8 (c.toNat:Int)] w λe w'=>e = .returned (.bool (wdB c))/\w=w':=by
 rcases five c with h |h |h |h |h
 ·have hb:wdB c=true:=by unfold wdB dgB;simp;omega
  rw[hb];clear hb
  obtain⟨h1,h2⟩:=h
  go_enter Tryz.func244,Tryz.ntmps244
  go_wp2
  go_ret
  simp
 ·have hb:wdB c=false:=by unfold wdB dgB;simp;omega
  have hd:dgB c=false:=by unfold dgB;simp;omega
  have q:((c.toNat:Int)==95)=false:=by simp;omega
  rw[hb];clear hb
  have h1:97<=(c.toNat:Int):=by omega
  have h2:¬(c.toNat:Int)<=122:=by omega
  have h3:65<=(c.toNat:Int):=by omega
  have h4:¬(c.toNat:Int)<=90:=by omega
  go_enter Tryz.func244,Tryz.ntmps244
  go_wp2_with (go_at_call 247;refine(digit_any _ _).mono ?_;rintro e w' ⟨rfl,rfl⟩)
  go_ret
  simp
 ·have hb:wdB c=true:=by unfold wdB dgB;simp;omega
  rw[hb];clear hb
  obtain⟨h3,h4⟩:=h
  have h1:¬97<=(c.toNat:Int):=by omega
  go_enter Tryz.func244,Tryz.ntmps244
  go_wp2
  go_ret
  simp
 ·have hb:wdB c=dgB c:=by rw[Bool.eq_iff_iff];unfold wdB dgB;simp;omega
  rw[hb];clear hb
  have h1:¬97<=(c.toNat:Int):=by omega
  have h3:¬65<=(c.toNat:Int):=by omega
  have q:((c.toNat:Int)==95)=false:=by simp;omega
  cases hd:dgB c
  ·go_enter Tryz.func244,Tryz.ntmps244
   go_wp2_with (go_at_call 247;refine(digit_any _ _).mono ?_;rintro e w' ⟨rfl,rfl⟩)
   go_ret
   simp
  ·go_enter Tryz.func244,Tryz.ntmps244
   go_wp2_with (go_at_call 247;refine(digit_any _ _).mono ?_;rintro e w' ⟨rfl,rfl⟩)
   go_ret
   simp
 ·have hb:wdB c=((c.toNat:Int)==95):=by rw[Bool.eq_iff_iff];unfold wdB dgB;simp;omega
  have hd:dgB c=false:=by unfold dgB;simp;omega
  rw[hb];clear hb
  have h1:¬97<=(c.toNat:Int):=by omega
  have h3:65<=(c.toNat:Int):=by omega
  have h4:¬(c.toNat:Int)<=90:=by omega
  generalize hq:((c.toNat:Int)==95)=b at *
  go_enter Tryz.func244,Tryz.ntmps244
  go_wp2_with (go_at_call 247;refine(digit_any _ _).mono ?_;rintro e w' ⟨rfl,rfl⟩)
  go_ret
  simp
end
section
open Go Go.RowKit
def keptB (l:List UInt8):Bool:=l==[118,97,114] || l==[112,114,111,99] || l==[105,110,116] || l==[98,111,111,108] || l==[97,114,114] || l==[102,117,110] || l==[105,110] || l==[111,117,116] || l==[105,102] || l==[101,108,115,101] || l==[119,104,105,108,101] || l==[99,97,108,108] || l==[114,101,116,117,114,110] || l==[116,104,114,111,119] || l==[116,114,121] || l==[99,97,116,99,104] || l==[110,101,119] || l==[108,101,110] || l==[116,114,117,101] || l==[102,97,108,115,101]
def signB (l:List UInt8):Bool:=l==[40] || l==[41] || l==[123] || l==[125] || l==[91] || l==[93] || l==[44] || l==[59] || l==[61] || l==[61,61] || l==[33,61] || l==[60] || l==[60,61] || l==[62] || l==[62,61] || l==[43] || l==[45] || l==[42] || l==[47] || l==[37] || l==[33] || l==[38,38] || l==[124,124] || l==[38]
set_option maxHeartbeats 2000000 in
theorem kept_any (s:ByteArray)(w:World):Calls Tryz.prog 207 #[.string s] w λe w'=>e = .returned (.bool (keptB s.toList))/\w=w':=by
 go_enter Tryz.func207,Tryz.ntmps207
 go_wp2
 all_goals
  first
  |(exfalso;simp_all only[Bool.false_eq_true];done)
  |(go_ret;exact⟨ret_bool (by simp only[keptB, *,Bool.true_or,Bool.or_true,Bool.or_self]),rfl⟩)
set_option maxHeartbeats 2000000 in
theorem sign_any (s:ByteArray)(w:World):Calls Tryz.prog 209 #[.string s] w λe w'=>e = .returned (.bool (signB s.toList))/\w=w':=by
 go_enter Tryz.func209,Tryz.ntmps209
 go_wp2
 all_goals
  first
  |(exfalso;simp_all only[Bool.false_eq_true];done)
  |(go_ret;exact⟨ret_bool (by simp only[signB, *,Bool.true_or,Bool.or_true,Bool.or_self]),rfl⟩)
end
section
open Go Go.RowKit
theorem kept_l (s:ByteArray)(w:World):Calls Tryz.prog 207 #[.string s] w λe w'=>e = .returned (.bool (keptB s.data.toList))/\w=w':=by
 rw[<- ByteArray.toList_eq];exact kept_any s w
theorem sign_l (s:ByteArray)(w:World):Calls Tryz.prog 209 #[.string s] w λe w'=>e = .returned (.bool (signB s.data.toList))/\w=w':=by
 rw[<- ByteArray.toList_eq];exact sign_any s w
theorem take_snoc (s:ByteArray)(k:Nat)(h:k<s.size):s.data.toList.take (k+1)=s.data.toList.take k++[s[k]]:=by
 rw[List.take_succ_eq_append_getElem (by simpa using h)];rfl
def allW (l:List UInt8):Bool:=l.all wdB
def idB (l:List UInt8):Bool:=decide (1<=l.length)&&decide (l.length<=20) && !(dgB (l.headD 0)) && !(keptB l)&&allW l
theorem allW_snoc {l l':List UInt8}{c:UInt8}(e:l'=l++[c])(h:allW l=true)(hc:wdB c=true):allW l'=true:=by
 subst e;unfold allW at *;rw[List.all_append,h];simp[hc]
theorem head_get (s:ByteArray)(h:0<s.size):s.data.toList.headD 0=s[0]:=by
 obtain⟨⟨l⟩⟩:=s
 cases l with
 |nil=>simp[ByteArray.size]at h
 |cons a l=>rfl
theorem id_false_len {l:List UInt8}(h:l.length=0\/20<l.length):idB l=false:=by
 unfold idB
 rcases h with h |h
 ·rw[decide_eq_false (by omega:¬1<=l.length)];rfl
 ·rw[decide_eq_false (by omega:¬l.length<=20)];simp
set_option maxHeartbeats 1000000 in
theorem ident_any (s:ByteArray)(w:World)(hmax:s.size<=281474976710656):Calls Tryz.prog 208 #[.string s] w λe w'=>e = .returned (.bool (idB s.data.toList))/\w=w':=by
 have hlen:s.data.toList.length=s.size:=by simp
 by_cases h0:s.size=0
 ·rw[id_false_len (.inl (by omega))]
  have q0:((s.size:Int)==0)=true:=beq_iff_eq.2 (by omega)
  clear h0 hlen
  go_enter Tryz.func208,Tryz.ntmps208
  go_wp2
  go_ret
  simp
 ·have q0:((s.size:Int)==0)=false:=beq_eq_false_iff_ne.2 (by omega)
  by_cases h1:20<s.size
  ·rw[id_false_len (.inr (by omega))]
   have q1:(20:Int)<(s.size:Int):=by omega
   clear h0 hlen
   go_enter Tryz.func208,Tryz.ntmps208
   go_wp2
   go_ret
   simp
  ·have hp:0<s.size:=by omega
   have hh:=head_get s hp
   have q1:¬(20:Int)<(s.size:Int):=by omega
   cases hd:dgB s[0]
   ·cases hk:keptB s.data.toList
    ·have hE:idB s.data.toList=allW s.data.toList:=by
      unfold idB
      rw[hh,hd,hk,decide_eq_true (by omega),decide_eq_true (by omega)];simp
     rw[hE]
     clear hE hh
     have HL:=hid hlen
     clear h0 hlen
     go_enter Tryz.func208,Tryz.ntmps208
     go_wp2_with (first|(go_at_call 247;refine(digit_any _ _).mono ?_;rintro e w' ⟨rfl,rfl⟩) |(go_at_call 207;refine(kept_l _ _).mono ?_;rintro e w' ⟨rfl,rfl⟩))
     go_loop [23] (λi=>∃k:Nat,k<=s.size/\i = .int .i64 k/\allW (s.data.toList.take k)=true) (λi=>s.size-(intOf i).toNat)
     case atStart=>exact⟨0,Nat.zero_le _,rfl,rfl⟩
     case round=>
      obtain⟨k,hk,rfl,ha⟩:=hrel
      have HA:=hid ha
      clear ha
      by_cases hlt:k<s.size
      ·have hts:=hid (take_snoc s k hlt)
       have hlz:(k:Int)<(s.size:Int):=by omega
       cases hw:wdB s[k]
       ·go_wp2_with (go_at_call 244;refine(word_any _ _).mono ?_;rintro e w' ⟨rfl,rfl⟩)
        go_ret
        refine⟨ret_bool ?_,rfl⟩
        symm
        unfold allW
        rw[List.all_eq_false]
        exact⟨s[k],by simp[ByteArray.getElem_eq_getElem_data],by simp[hw]⟩
       ·go_wp2_with (go_at_call 244;refine(word_any _ _).mono ?_;rintro e w' ⟨rfl,rfl⟩)
        go_round
        case rel=>exact⟨k+1,by omega,by go_num,allW_snoc hts.out HA.out hw⟩
        case measure=>simp[intOf];omega
      ·have hlz:¬(k:Int)<(s.size:Int):=by omega
       go_wp2
       go_ret
       refine⟨ret_bool ?_,rfl⟩
       have:=HA.out
       rw[List.take_of_length_le (by rw[HL.out];omega)]at this
       exact this.symm
    ·have hE:idB s.data.toList=false:=by
      unfold idB;rw[hk];simp
     rw[hE];clear hE hh h0 hlen
     go_enter Tryz.func208,Tryz.ntmps208
     go_wp2_with (first|(go_at_call 247;refine(digit_any _ _).mono ?_;rintro e w' ⟨rfl,rfl⟩) |(go_at_call 207;refine(kept_l _ _).mono ?_;rintro e w' ⟨rfl,rfl⟩))
     go_ret
     simp
   ·have hE:idB s.data.toList=false:=by
     unfold idB;rw[hh,hd];simp
    rw[hE];clear hE hh h0 hlen
    go_enter Tryz.func208,Tryz.ntmps208
    go_wp2_with (first|(go_at_call 247;refine(digit_any _ _).mono ?_;rintro e w' ⟨rfl,rfl⟩) |(go_at_call 207;refine(kept_l _ _).mono ?_;rintro e w' ⟨rfl,rfl⟩))
    go_ret
    simp
end
end Go.Proofs.YtedkgofehbecmaaGreatDoor.Tk
namespace Go.Proofs
open Go.Shelf
def Tryz.laysC174_ren:Go.Shelf.Ren:=⟨λ|174=>248 |247=>267 |245=>268 |287=>273 |279=>274 |280=>275 |281=>276 |282=>277 |321=>280 |322=>281 |316=>282 |171=>284 |205=>283 |243=>289 |246=>290 |283=>291 |284=>292 |285=>293 |286=>294 |129=>159 |317=>295 |318=>296 |319=>297 |320=>298 |337=>299 |338=>122 |n=>n,λ|9=>9 |3=>3 |2=>2 |75=>231 |85=>232 |4=>4 |167=>240 |5=>5 |53=>103 |175=>241 |46=>124 |168=>243 |37=>247 |0=>0 |210=>250 |21=>21 |127=>252 |145=>255 |143=>253 |171=>257 |173=>259 |212=>262 |51=>173 |20=>20 |213=>263 |232=>264 |233=>182 |80=>265 |n=>n,λ|15=>1 |16=>2 |17=>3 |18=>4 |19=>0 |n=>n⟩
theorem Tryz.laysC174:Go.Proofs.LaysC.n174 Tryz.prog Tryz.laysC174_ren := {
 mixed:=by kernel_rfl
 f129:=Tryz.func159.trans (congrArg some (by kernel_rfl))
 f171:=Tryz.func284.trans (congrArg some (by kernel_rfl))
 f174:=Tryz.func248.trans (congrArg some (by kernel_rfl))
 f205:=Tryz.func283.trans (congrArg some (by kernel_rfl))
 f243:=Tryz.func289.trans (congrArg some (by kernel_rfl))
 f245:=Tryz.func268.trans (congrArg some (by kernel_rfl))
 f246:=Tryz.func290.trans (congrArg some (by kernel_rfl))
 f247:=Tryz.func267.trans (congrArg some (by kernel_rfl))
 f279:=Tryz.func274.trans (congrArg some (by kernel_rfl))
 f280:=Tryz.func275.trans (congrArg some (by kernel_rfl))
 f281:=Tryz.func276.trans (congrArg some (by kernel_rfl))
 f282:=Tryz.func277.trans (congrArg some (by kernel_rfl))
 f283:=Tryz.func291.trans (congrArg some (by kernel_rfl))
 f284:=Tryz.func292.trans (congrArg some (by kernel_rfl))
 f285:=Tryz.func293.trans (congrArg some (by kernel_rfl))
 f286:=Tryz.func294.trans (congrArg some (by kernel_rfl))
 f287:=Tryz.func273.trans (congrArg some (by kernel_rfl))
 f316:=Tryz.func282.trans (congrArg some (by kernel_rfl))
 f317:=Tryz.func295.trans (congrArg some (by kernel_rfl))
 f318:=Tryz.func296.trans (congrArg some (by kernel_rfl))
 f319:=Tryz.func297.trans (congrArg some (by kernel_rfl))
 f320:=Tryz.func298.trans (congrArg some (by kernel_rfl))
 f321:=Tryz.func280.trans (congrArg some (by kernel_rfl))
 f322:=Tryz.func281.trans (congrArg some (by kernel_rfl))
 f337:=Tryz.func299.trans (congrArg some (by kernel_rfl))
 f338:=Tryz.func122.trans (congrArg some (by kernel_rfl))
 t0:=Tryz.underlying0
 a0:=Tryz.isAgg0
 z0:=Tryz.sizeOf0
 v0:=Tryz.zeroValue0
 t2:=Tryz.underlying2
 a2:=Tryz.isAgg2
 z2:=Tryz.sizeOf2
 v2:=Tryz.zeroValue2
 t3:=Tryz.underlying3
 a3:=Tryz.isAgg3
 z3:=Tryz.sizeOf3
 v3:=Tryz.zeroValue3
 t4:=Tryz.underlying4
 a4:=Tryz.isAgg4
 z4:=Tryz.sizeOf4
 v4:=Tryz.zeroValue4
 t5:=Tryz.underlying5
 a5:=Tryz.isAgg5
 z5:=Tryz.sizeOf5
 v5:=Tryz.zeroValue5
 t9:=Tryz.underlying9
 a9:=Tryz.isAgg9
 z9:=Tryz.sizeOf9
 v9:=Tryz.zeroValue9
 t20:=Tryz.underlying20
 a20:=Tryz.isAgg20
 z20:=Tryz.sizeOf20
 v20:=Tryz.zeroValue20
 t21:=Tryz.underlying21
 a21:=Tryz.isAgg21
 z21:=Tryz.sizeOf21
 v21:=Tryz.zeroValue21
 t37:=Tryz.underlying247
 a37:=Tryz.isAgg247
 z37:=Tryz.sizeOf247
 v37:=Tryz.zeroValue247
 t46:=Tryz.underlying124
 a46:=Tryz.isAgg124
 z46:=Tryz.sizeOf124
 v46:=Tryz.zeroValue124
 t51:=Tryz.underlying173
 a51:=Tryz.isAgg173
 z51:=Tryz.sizeOf173
 v51:=Tryz.zeroValue173
 t53:=Tryz.underlying103
 a53:=Tryz.isAgg103
 z53:=Tryz.sizeOf103
 v53:=Tryz.zeroValue103
 t75:=Tryz.underlying231
 a75:=Tryz.isAgg231
 z75:=Tryz.sizeOf231
 v75:=Tryz.zeroValue231
 t85:=Tryz.underlying232
 a85:=Tryz.isAgg232
 z85:=Tryz.sizeOf232
 v85:=Tryz.zeroValue232
 t127:=Tryz.underlying252
 a127:=Tryz.isAgg252
 z127:=Tryz.sizeOf252
 v127:=Tryz.zeroValue252
 t143:=Tryz.underlying253
 a143:=Tryz.isAgg253
 z143:=Tryz.sizeOf253
 v143:=Tryz.zeroValue253
 t145:=Tryz.underlying255
 a145:=Tryz.isAgg255
 z145:=Tryz.sizeOf255
 v145:=Tryz.zeroValue255
 t167:=Tryz.underlying240
 a167:=Tryz.isAgg240
 z167:=Tryz.sizeOf240
 v167:=Tryz.zeroValue240
 t168:=Tryz.underlying243
 a168:=Tryz.isAgg243
 z168:=Tryz.sizeOf243
 v168:=Tryz.zeroValue243
 t171:=Tryz.underlying257
 a171:=Tryz.isAgg257
 z171:=Tryz.sizeOf257
 v171:=Tryz.zeroValue257
 t173:=Tryz.underlying259
 a173:=Tryz.isAgg259
 z173:=Tryz.sizeOf259
 v173:=Tryz.zeroValue259
 t175:=Tryz.underlying241
 a175:=Tryz.isAgg241
 z175:=Tryz.sizeOf241
 v175:=Tryz.zeroValue241
 t210:=Tryz.underlying250
 a210:=Tryz.isAgg250
 z210:=Tryz.sizeOf250
 v210:=Tryz.zeroValue250
 t212:=Tryz.underlying262
 a212:=Tryz.isAgg262
 z212:=Tryz.sizeOf262
 v212:=Tryz.zeroValue262
 t213:=Tryz.underlying263
 a213:=Tryz.isAgg263
 z213:=Tryz.sizeOf263
 t232:=Tryz.underlying264
 a232:=Tryz.isAgg264
 z232:=Tryz.sizeOf264
 v232:=Tryz.zeroValue264
 t233:=Tryz.underlying182
 a233:=Tryz.isAgg182
 z233:=Tryz.sizeOf182
 v233:=Tryz.zeroValue182
 g15:=by kernel_rfl
 g16:=by kernel_rfl
 g17:=by kernel_rfl
 g18:=by kernel_rfl
 g19:=by kernel_rfl
 t80:=Tryz.underlying265
 a80:=Tryz.isAgg265
 z80:=Tryz.sizeOf265
 v80:=Tryz.zeroValue265
 i0:=by kernel_rfl
 i2:=by kernel_rfl
 i3:=by kernel_rfl
 i4:=by kernel_rfl
 i5:=by kernel_rfl
 i9:=by kernel_rfl
 i20:=by kernel_rfl
 i21:=by kernel_rfl
 i37:=by kernel_rfl
 i46:=by kernel_rfl
 i51:=by kernel_rfl
 i53:=by kernel_rfl
 i75:=by kernel_rfl
 i80:=by kernel_rfl
 i85:=by kernel_rfl
 i127:=by kernel_rfl
 i143:=by kernel_rfl
 i145:=by kernel_rfl
 i167:=by kernel_rfl
 i168:=by kernel_rfl
 i171:=by kernel_rfl
 i173:=by kernel_rfl
 i175:=by kernel_rfl
 i210:=by kernel_rfl
 i212:=by kernel_rfl
 i232:=by kernel_rfl
 i233:=by kernel_rfl
 m15:=by kernel_rfl
 m16:=by kernel_rfl
 m17:=by kernel_rfl
 m18:=by kernel_rfl
 m19:=by kernel_rfl
 c0:=by kernel_rfl
 c2:=by kernel_rfl
 c3:=by kernel_rfl
 c4:=by kernel_rfl
 c5:=by kernel_rfl
 c9:=by kernel_rfl
 c20:=by kernel_rfl
 c21:=by kernel_rfl
 c37:=by kernel_rfl
 c46:=by kernel_rfl
 c51:=by kernel_rfl
 c53:=by kernel_rfl
 c75:=by kernel_rfl
 c80:=by kernel_rfl
 c85:=by kernel_rfl
 c127:=by kernel_rfl
 c143:=by kernel_rfl
 c145:=by kernel_rfl
 c167:=by kernel_rfl
 c168:=by kernel_rfl
 c171:=by kernel_rfl
 c173:=by kernel_rfl
 c175:=by kernel_rfl
 c210:=by kernel_rfl
 c212:=by kernel_rfl
 c213:=by kernel_rfl
 c232:=by kernel_rfl
 c233:=by kernel_rfl }
open Go.RowKit in
theorem Tryz.strconv_ParseInt_10_at64_ok (s:ByteArray)(hmax:s.size<=9223372036854775806)(v:Int)(h:Lib.parseIntB 64 s.data.toList = .ok v)(w:World) :
  Calls Tryz.prog 248 #[.string s,.int .i64 10,.int .i64 64] w λe w'=>e = .returned (.tuple #[.int .i64 v,.nilIface])/\(w'=w\/∃t,w'=Lib.bytesWorld w 5 t):=Any.strconv_ParseInt_10_at64_ok Tryz.laysC174 s hmax v h w
open Go.RowKit in
theorem Tryz.strconv_ParseInt_10_at64_range (s:ByteArray)(hlim:s.size<=281474976710656)(h:Lib.parseIntB 64 s.data.toList = .range)(ev:Value)(w:World)(hv:w.cell? ⟨2,0,none⟩=some ev)(hev:ev = .nilIface\/∃te pe,ev = .iface te pe) :
  Calls Tryz.prog 248 #[.string s,.int .i64 10,.int .i64 64] w λe w'=>∃N,e = .returned (.tuple #[.int .i64 (Lib.intSat 64 s.data.toList),.iface 243 (.pointer (some ⟨N,0,none⟩))])/\w.heap.size<=N/\w'.heap[N]?=some (.cells #[.string ⟨#[80,97,114,115,101,73,110,116]⟩,.string s,ev] 250 (0,0))/\Below w.heap.size w w':=Any.strconv_ParseInt_10_at64_range Tryz.laysC174 s hlim h ev w hv hev
end Go.Proofs
namespace Go.Proofs.YtedkgofehbecmaaGreatDoor.Tk
open Go.Lib (hid)
section
open Go Go.RowKit
def Errs (w:World):Prop:=∃e1 e2,w.cell? ⟨1,0,none⟩=some e1/\(e1 = .nilIface\/∃te pe,e1 = .iface te pe)/\w.cell? ⟨2,0,none⟩=some e2/\(e2 = .nilIface\/∃te pe,e2 = .iface te pe)
theorem Errs.below {w w':World}(h:Errs w)(hb:Below w.heap.size w w'):Errs w':=by
  obtain⟨e1,e2,h1,k1,h2,k2⟩:=h
  exact⟨e1,e2,(hb.cell (p:=⟨1,0,none⟩) (Lib.lt_of_cell h1)).trans h1,k1,(hb.cell (p:=⟨2,0,none⟩) (Lib.lt_of_cell h2)).trans h2,k2⟩
def numF (l:List UInt8):Option Int:=if 1<l.length/\(l.headD 0).toNat=48 then none else match Lib.parseIntB 64 l with| .ok v=>some v |_=>none
def numV (l:List UInt8):Int:=(numF l).getD 0
def numOk (l:List UInt8):Bool:=(numF l).isSome
def NumPost (l:List UInt8)(w:World)(e:Ending)(w':World):Prop:=e = .returned (.tuple #[.int .i64 (numV l),.bool (numOk l)])/\Below w.heap.size w w'
theorem num_none {l:List UInt8}{w w':World}(h:numF l=none)(hb:Below w.heap.size w w'):NumPost l w (.returned (.tuple #[.int .i64 0,.bool false])) w':=by
  refine⟨?_,hb⟩
  unfold numV numOk;rw[h];rfl
theorem num_some {l:List UInt8}{w w':World}{v:Int}(h:numF l=some v)(hb:Below w.heap.size w w'):NumPost l w (.returned (.tuple #[.int .i64 v,.bool true])) w':=by
  refine⟨?_,hb⟩
  unfold numV numOk;rw[h];rfl
def ParsePost (l:List UInt8)(w:World)(e:Ending)(w':World):Prop:=
    ((∃v,Lib.parseIntB 64 l = .ok v/\e = .returned (.tuple #[.int .i64 v,.nilIface]))\/(∃v N,(∀u,Lib.parseIntB 64 l ≠ .ok u)/\e = .returned (.tuple #[.int .i64 v,.iface 243 (.pointer (some ⟨N,0,none⟩))])))/\Below w.heap.size w w'
set_option maxHeartbeats 1000000 in
theorem parse_any (s:ByteArray)(w:World)(hE:Errs w)(hs:s.size<=281474976710656):Calls Tryz.prog 248 #[.string s,.int .i64 10,.int .i64 64] w (ParsePost s.data.toList w):=by
  obtain⟨e1,e2,h1,k1,h2,k2⟩:=hE
  rcases h:Lib.parseIntB 64 s.data.toList with v |_ |_
  · refine(Tryz.strconv_ParseInt_10_at64_ok s (by omega) v h w).mono ?_
    rintro e w' ⟨he,hw⟩
    refine⟨.inl ⟨v,h,he⟩,?_⟩
    rcases hw with rfl |⟨t,rfl⟩
    · exact Below.refl _ _
    · exact Lib.bytesWorld_below _ _ _
  · refine(Any.strconv_ParseInt_10_at64_syntax Tryz.laysC174 s hs h e1 w h1 k1).mono ?_
    rintro e w' ⟨N,he,_,_,hb⟩
    exact⟨.inr ⟨0,N,(λu hh=>by rw[h]at hh;cases hh),he⟩,hb⟩
  · refine(Tryz.strconv_ParseInt_10_at64_range s hs h e2 w h2 k2).mono ?_
    rintro e w' ⟨N,he,_,_,hb⟩
    exact⟨.inr ⟨_,N,(λu hh=>by rw[h]at hh;cases hh),he⟩,hb⟩
set_option maxHeartbeats 1000000 in
theorem number_any (s:ByteArray)(w:World)(hE:Errs w)(hs:s.size<=281474976710656):Calls Tryz.prog 210 #[.string s] w (NumPost s.data.toList w):=by
  have hlen:s.data.toList.length=s.size:=by simp
  have HL:=hid hlen
  clear hlen
  have HE:=hid hE
  clear hE
  by_cases h1:1<s.size
  · have hp:0<s.size:=by omega
    have HH:=hid (head_get s hp)
    have q:(1:Int)<(s.size:Int):=by omega
    by_cases h2:s[0].toNat=48
    · have hN:=hid (show numF s.data.toList=none by unfold numF;rw[if_pos ⟨by rw[HL.out];exact h1,by rw[HH.out];exact h2⟩])
      have q2:((s[0].toNat:Int)==48)=true:=beq_iff_eq.2 (by omega)
      clear h2
      go_enter Tryz.func210,Tryz.ntmps210
      go_wp2
      go_ret2
      exact num_none hN.out (Below.refl _ _)
    · have hN:=hid (show numF s.data.toList=(match Lib.parseIntB 64 s.data.toList with| .ok v=>some v |_=>none)by unfold numF;rw[if_neg (by rw[HH.out];exact λh=>h2 h.2)])
      have q2:((s[0].toNat:Int)==48)=false:=beq_eq_false_iff_ne.2 (by omega)
      clear h2
      go_enter Tryz.func210,Tryz.ntmps210
      go_wp2_with (go_at_call 248;refine(parse_any s _ HE.out hs).mono ?_)
      rintro e w' ⟨he,hb⟩
      rcases he with⟨v,hv,rfl⟩ |⟨v,N,hv,rfl⟩
      · have HV:=hid hv
        clear hv
        go_wp2
        go_ret2
        exact num_some (by rw[hN.out,HV.out]) hb
      · have HV:=hid hv
        clear hv
        go_wp2
        go_ret2
        refine num_none ?_ hb
        rw[hN.out]
        cases hq:Lib.parseIntB 64 s.data.toList with
        |ok u=>exact absurd hq (HV.out u)
        |_=>rfl
  · have q:¬(1:Int)<(s.size:Int):=by omega
    have hN:=hid (show numF s.data.toList=(match Lib.parseIntB 64 s.data.toList with| .ok v=>some v |_=>none)by unfold numF;rw[if_neg (by rw[HL.out];exact λh=>h1 h.1)])
    go_enter Tryz.func210,Tryz.ntmps210
    go_wp2_with (go_at_call 248;refine(parse_any s _ HE.out hs).mono ?_)
    rintro e w' ⟨he,hb⟩
    rcases he with⟨v,hv,rfl⟩ |⟨v,N,hv,rfl⟩
    · have HV:=hid hv
      clear hv
      go_wp2
      go_ret2
      exact num_some (by rw[hN.out,HV.out]) hb
    · have HV:=hid hv
      clear hv
      go_wp2
      go_ret2
      refine num_none ?_ hb
      rw[hN.out]
      cases hq:Lib.parseIntB 64 s.data.toList with
      |ok u=>exact absurd hq (HV.out u)
      |_=>rfl
end
section
open Go Go.RowKit
def tokK (l:List UInt8):Nat:=if keptB l then 4 else if idB l then 1 else if signB l then 3 else if numOk l then 2 else 0
def tokN (l:List UInt8):Int:=if tokK l=2 then numV l else 0
def TokPost (s:ByteArray)(t:Nat)(w:World)(e:Ending)(w':World):Prop:=
  ((tokK s.data.toList=0/\e = .returned (.tuple #[.agg #[.int .i64 0,.int .i64 0,.int .i64 0,.string ⟨#[]⟩],.bool false])) \/
   (tokK s.data.toList≠0/\e = .returned (.tuple #[.agg #[.int .i64 (tokK s.data.toList:Int),.int .i64 (tokN s.data.toList),.int .i64 (t:Int),.string s],.bool true])))/\Below w.heap.size w w'
theorem tok_some {s:ByteArray}{t:Nat}{w w':World}{k:Nat}{n:Int}(hk:tokK s.data.toList=k)(h0:k≠0)(hn:tokN s.data.toList=n)(hb:Below w.heap.size w w') :
    TokPost s t w (.returned (.tuple #[.agg #[.int .i64 (k:Int),.int .i64 n,.int .i64 (t:Int),.string s],.bool true])) w':=by
  subst hk hn;exact⟨.inr ⟨h0,rfl⟩,hb⟩
theorem tok_none {s:ByteArray}{t:Nat}{w w':World}(hk:tokK s.data.toList=0)(hb:Below w.heap.size w w') :
    TokPost s t w (.returned (.tuple #[.agg #[.int .i64 0,.int .i64 0,.int .i64 0,.string ⟨#[]⟩],.bool false])) w':=⟨.inl ⟨hk,rfl⟩,hb⟩
theorem num_true {l:List UInt8}{w:World}{e:Ending}{w':World}(h:NumPost l w e w')(hk:numOk l=true):e = .returned (.tuple #[.int .i64 (numV l),.bool true])/\Below w.heap.size w w':=by
  obtain⟨he,hb⟩:=h;rw[hk]at he;exact⟨he,hb⟩
theorem num_false {l:List UInt8}{w:World}{e:Ending}{w':World}(h:NumPost l w e w')(hk:numOk l=false):e = .returned (.tuple #[.int .i64 (numV l),.bool false])/\Below w.heap.size w w':=by
  obtain⟨he,hb⟩:=h;rw[hk]at he;exact⟨he,hb⟩
set_option maxHeartbeats 2000000 in
theorem tokenOf_any (s:ByteArray)(t:Nat)(w:World)(hE:Errs w)(hs:s.size<=281474976710656):Calls Tryz.prog 171 #[.string s,.int .i64 (t:Int)] w (TokPost s t w):=by
  have HE:=hid hE
  clear hE
  cases hk:keptB s.data.toList
  · cases hi:idB s.data.toList
    · cases hg:signB s.data.toList
      · cases hn:numOk s.data.toList
        · have K:=hid (show tokK s.data.toList=0 by simp[tokK,hk,hi,hg,hn])
          have HN:=hid hn
          clear hn
          go_enter Tryz.func171,Tryz.ntmps171
          go_wp2_with (first|(go_at_call 207;refine(kept_l _ _).mono ?_;rintro e w' ⟨rfl,rfl⟩) |(go_at_call 208;refine(ident_any _ _ hs).mono ?_;rintro e w' ⟨rfl,rfl⟩) |(go_at_call 209;refine(sign_l _ _).mono ?_;rintro e w' ⟨rfl,rfl⟩) |(go_at_call 210;refine(number_any s _ (HE.out.below (heap1 _ _)) hs).mono ?_))
          intro e w' hp
          obtain⟨rfl,hb⟩:=num_false hp HN.out
          have hb2:=bt (heap1 w _) hb
          have hz:w.heap.size<w'.heap.size:=by have:=hb.size;simp at this;omega
          obtain⟨hc,hf⟩:(∀o,w'.cell? ⟨w.heap.size,o,none⟩=_)/\(∀o,w'.frozen? ⟨w.heap.size,o,none⟩=_):=⟨λo=>hb.cell (p:=⟨w.heap.size,o,none⟩) (by simp),λo=>hb.frozen (p:=⟨w.heap.size,o,none⟩) (by simp)⟩
          go_wp2
          refine bodyPost_ret (v :=.tuple #[.agg #[.int .i64 0,.int .i64 0,.int .i64 0,.string ⟨#[]⟩],.bool false]) (by simp[results,Tryz.results171,go_sem,hc]) rfl (tok_none K.out ?_)
          exact(((hb2.setCell (Nat.le_refl _) _).setCell (Nat.le_refl _) _).setCell (Nat.le_refl _) _).setCell (Nat.le_refl _) _
        · have K:=hid (show tokK s.data.toList=2 by simp[tokK,hk,hi,hg,hn])
          have K2:=hid (show tokN s.data.toList=numV s.data.toList by simp[tokN,K.out])
          have HN:=hid hn
          clear hn
          go_enter Tryz.func171,Tryz.ntmps171
          go_wp2_with (first|(go_at_call 207;refine(kept_l _ _).mono ?_;rintro e w' ⟨rfl,rfl⟩) |(go_at_call 208;refine(ident_any _ _ hs).mono ?_;rintro e w' ⟨rfl,rfl⟩) |(go_at_call 209;refine(sign_l _ _).mono ?_;rintro e w' ⟨rfl,rfl⟩) |(go_at_call 210;refine(number_any s _ (HE.out.below (heap1 _ _)) hs).mono ?_))
          intro e w' hp
          obtain⟨rfl,hb⟩:=num_true hp HN.out
          have hb2:=bt (heap1 w _) hb
          have hz:w.heap.size<w'.heap.size:=by have:=hb.size;simp at this;omega
          obtain⟨hc,hf⟩:(∀o,w'.cell? ⟨w.heap.size,o,none⟩=_)/\(∀o,w'.frozen? ⟨w.heap.size,o,none⟩=_):=⟨λo=>hb.cell (p:=⟨w.heap.size,o,none⟩) (by simp),λo=>hb.frozen (p:=⟨w.heap.size,o,none⟩) (by simp)⟩
          go_wp2
          refine bodyPost_ret (v :=.tuple #[.agg #[.int .i64 ((2:Nat):Int),.int .i64 (numV s.data.toList),.int .i64 (t:Int),.string s],.bool true]) (by simp[results,Tryz.results171,go_sem,hc]) rfl (tok_some K.out (by decide) K2.out ?_)
          exact(((hb2.setCell (Nat.le_refl _) _).setCell (Nat.le_refl _) _).setCell (Nat.le_refl _) _).setCell (Nat.le_refl _) _
      · have K:=hid (show tokK s.data.toList=3 by simp[tokK,hk,hi,hg])
        have K2:=hid (show tokN s.data.toList=0 by simp[tokN,K.out])
        go_enter Tryz.func171,Tryz.ntmps171
        go_wp2_with (first|(go_at_call 207;refine(kept_l _ _).mono ?_;rintro e w' ⟨rfl,rfl⟩) |(go_at_call 208;refine(ident_any _ _ hs).mono ?_;rintro e w' ⟨rfl,rfl⟩) |(go_at_call 209;refine(sign_l _ _).mono ?_;rintro e w' ⟨rfl,rfl⟩) |(go_at_call 210;refine(number_any s _ (HE.out.below (heap1 _ _)) hs).mono ?_))
        refine bodyPost_ret (v :=.tuple #[.agg #[.int .i64 ((3:Nat):Int),.int .i64 0,.int .i64 (t:Int),.string s],.bool true]) (by simp[results,Tryz.results171,go_sem]) rfl (tok_some K.out (by decide) K2.out ?_)
        exact heap1 w _
    · have K:=hid (show tokK s.data.toList=1 by simp[tokK,hk,hi])
      have K2:=hid (show tokN s.data.toList=0 by simp[tokN,K.out])
      go_enter Tryz.func171,Tryz.ntmps171
      go_wp2_with (first|(go_at_call 207;refine(kept_l _ _).mono ?_;rintro e w' ⟨rfl,rfl⟩) |(go_at_call 208;refine(ident_any _ _ hs).mono ?_;rintro e w' ⟨rfl,rfl⟩) |(go_at_call 209;refine(sign_l _ _).mono ?_;rintro e w' ⟨rfl,rfl⟩) |(go_at_call 210;refine(number_any s _ (HE.out.below (heap1 _ _)) hs).mono ?_))
      refine bodyPost_ret (v :=.tuple #[.agg #[.int .i64 ((1:Nat):Int),.int .i64 0,.int .i64 (t:Int),.string s],.bool true]) (by simp[results,Tryz.results171,go_sem]) rfl (tok_some K.out (by decide) K2.out ?_)
      exact heap1 w _
  · have K:=hid (show tokK s.data.toList=4 by simp[tokK,hk])
    have K2:=hid (show tokN s.data.toList=0 by simp[tokN,K.out])
    go_enter Tryz.func171,Tryz.ntmps171
    go_wp2_with (first|(go_at_call 207;refine(kept_l _ _).mono ?_;rintro e w' ⟨rfl,rfl⟩) |(go_at_call 208;refine(ident_any _ _ hs).mono ?_;rintro e w' ⟨rfl,rfl⟩) |(go_at_call 209;refine(sign_l _ _).mono ?_;rintro e w' ⟨rfl,rfl⟩) |(go_at_call 210;refine(number_any s _ (HE.out.below (heap1 _ _)) hs).mono ?_))
    refine bodyPost_ret (v :=.tuple #[.agg #[.int .i64 ((4:Nat):Int),.int .i64 0,.int .i64 (t:Int),.string s],.bool true]) (by simp[results,Tryz.results171,go_sem]) rfl (tok_some K.out (by decide) K2.out ?_)
    exact heap1 w _
end
end Go.Proofs.YtedkgofehbecmaaGreatDoor.Tk
namespace Go.Proofs.YtedkgofehbecmaaGreatDoor
open Go.Lib (hid)
open Go Go.ChangeShapes Go.WideShapes Go.ChangeAt Go.RowKit
theorem lit4:Tryz.prog.underlying 4=some .bool:=by kernel_rfl
theorem ownK:ownKnob Tryz.prog.godebug=none:=by kernel_rfl
theorem laidOut:laidOutB Tryz.prog=true:=by kernel_rfl
def laid5:List (String × DataW Unit):=[("math/bits.deBruijn32tab",Rows.laid_math_bits_deBruijn32tab),("math/bits.deBruijn64tab",Rows.laid_math_bits_deBruijn64tab),("internal/strconv.uint64pow10",Rows.laid_internal_strconv_uint64pow10),("strconv.ErrRange",Rows.laid_strconv_ErrRange),("strconv.ErrSyntax",Rows.laid_strconv_ErrSyntax)]
theorem gS:Tryz.prog.globalNamed "strconv.ErrSyntax" = some 1:=by kernel_rfl
theorem gR:Tryz.prog.globalNamed "strconv.ErrRange" = some 2:=by kernel_rfl
theorem tS:(Tryz.prog.globals[1]?).map (·.type)=some 231:=by kernel_rfl
theorem tR:(Tryz.prog.globals[2]?).map (·.type)=some 231:=by kernel_rfl
theorem u96:∃ms,Tryz.prog.underlying 231=some (.interface ms):=⟨_,Tryz.underlying231⟩
theorem laid_reads {P:Program}{w:World}:∀ {l:List (String × DataW Unit)} {ps:List MemPlace},DataW.LaidVars P w l ps->∀n d,(n,d) ∈ l ->
  ∃g t cs fuel p,P.globalNamed n=some g/\(P.globals[g]?).map (·.type)=some t/\w.var? P n=some cs/\DataW.trod (λ_=>()) P w 0 (λ_=>true) false fuel t cs.toList=some (d,p)
 | [],_,_,_,_,hm=>by cases hm
 |(n',d') :: r,ps,h,n,d,hm=>by
  obtain⟨g,t,cs,fuel,p,q,h1,h2,h3,h4,h5,_⟩:=h
  rcases List.mem_cons.1 hm with e |e
  ·cases e
   exact⟨g,t,cs,fuel,p,h1,h2,h3,h4⟩
  ·exact laid_reads h5 n d e
theorem err_cell {W:World}{n:String}{g:Nat}{nm:String}{d:DataW Unit}(hg:Tryz.prog.globalNamed n=some g)(ht:(Tryz.prog.globals[g]?).map (·.type)=some 231)
  (h:∃g t cs fuel p,Tryz.prog.globalNamed n=some g/\(Tryz.prog.globals[g]?).map (·.type)=some t/\W.var? Tryz.prog n=some cs/\DataW.trod (λ_=>()) Tryz.prog W 0 (λ_=>true) false fuel t cs.toList=some (.iface nm d,p)) :
  ∃e,W.cell? ⟨g,0,none⟩=some e/\(e = .nilIface\/∃te pe,e = .iface te pe):=by
 obtain⟨g',t,cs,fuel,p,h1,h2,h3,h4⟩:=h
 obtain rfl:g=g':=Option.some.inj (hg.symm.trans h1)
 obtain rfl:231=t:=Option.some.inj (ht.symm.trans h2)
 obtain⟨ms,hu⟩:=u96
 obtain⟨_,u,v,hcs,_,_⟩:=iface_of_trod hu h4
 refine⟨.iface u v,?_,.inr ⟨u,v,rfl⟩⟩
 rw[var?_cell hg h3 0,<- Array.getElem?_toList,hcs];rfl
theorem errs_of_laid {W:World}(h:laidMetH Tryz.prog laid5 W):Tk.Errs W:=by
 rw[MakeChecks.laidMetH_plain _ _ _ (by kernel_rfl)]at h
 obtain⟨ps,hv,_⟩:=h
 have hS:=laid_reads hv "strconv.ErrSyntax" Rows.laid_strconv_ErrSyntax (by simp[laid5])
 have hR:=laid_reads hv "strconv.ErrRange" Rows.laid_strconv_ErrRange (by simp[laid5])
 obtain⟨e1,h1,k1⟩:=err_cell gS tS hS
 obtain⟨e2,h2,k2⟩:=err_cell gR tR hR
 exact⟨e1,e2,h1,k1,h2,k2⟩
end Go.Proofs.YtedkgofehbecmaaGreatDoor
namespace Go.Proofs.YtedkgofehbecmaaGreatDoor
open Go.Lib (hid)
open Go Go.ChangeShapes Go.WideShapes Go.ChangeAt Go.RowKit
theorem door_met (os:Os)(args:Array Value):laidMetH Tryz.prog laid5 ((World.doorLaid Tryz.prog 62 os).forCall (λ_ _=>0) ⟨#[],args,[]⟩).memory:=
 laidMetH_of_parts3 (fuel:=8) (laidMet_of_run' 8 (by kernel_rfl) (by kernel_rfl)) (by kernel_rfl) (by kernel_rfl)
end Go.Proofs.YtedkgofehbecmaaGreatDoor
