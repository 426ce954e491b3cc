/- PROVED here: parts TkI of the claim. No condition but those in each theorem's own head. -/
import Derived.Test.YteecfjhjllajlaaGreatDoorH01
import Derived.Laws.Strings2
namespace Go.Proofs.YteecfjhjllajlaaGreatDoor.Tk
section
set_option maxHeartbeats 1000000
set_option maxRecDepth 100000
section
open Go Go.RowKit
def nlB (c:UInt8):Bool:=c.toNat != 10
theorem clo48 (s:ByteArray)(b k:Nat)(w:World)(hk:k<s.size)(hc:w.cell? ⟨b,0,none⟩=some (.string s)):Calls Tryz.prog 264 #[.int .i64 (k:Int),.pointer (some ⟨b,0,none⟩)] w fun e w'=>e = .returned (.bool (spB s[k]))∧w=w':=by
 go_enter Tryz.func264,Tryz.ntmps264
 go_wp2_with (go_at_call 160;refine(space_any _ _).mono ?_;rintro e w' ⟨rfl,rfl⟩)
 go_ret
 simp
theorem clo49 (s:ByteArray)(b k:Nat)(w:World)(hk:k<s.size)(hc:w.cell? ⟨b,0,none⟩=some (.string s)):Calls Tryz.prog 265 #[.int .i64 (k:Int),.pointer (some ⟨b,0,none⟩)] w fun e w'=>e = .returned (.bool (nlB s[k]))∧w=w':=by
 have hb:nlB s[k]=((s[k].toNat:Int) != 10):=by unfold nlB;rw[Bool.eq_iff_iff];simp;omega
 rw[hb];clear hb
 generalize hq:((s[k].toNat:Int) != 10)=q at *
 go_enter Tryz.func265,Tryz.ntmps265
 go_wp2
 go_ret
 simp
theorem clo50 (s:ByteArray)(b k:Nat)(w:World)(hk:k<s.size)(hc:w.cell? ⟨b,0,none⟩=some (.string s)):Calls Tryz.prog 266 #[.int .i64 (k:Int),.pointer (some ⟨b,0,none⟩)] w fun e w'=>e = .returned (.bool (wdB s[k]))∧w=w':=by
 go_enter Tryz.func266,Tryz.ntmps266
 go_wp2_with (go_at_call 252;refine(word_any _ _).mono ?_;rintro e w' ⟨rfl,rfl⟩)
 go_ret
 simp
theorem sub_list (s:ByteArray)(a b:Nat):(s.extract a b).data.toList=(s.data.toList.drop a).take (b-a):=by
 rw[ByteArray.data_extract,Array.toList_extract,List.extract_eq_take_drop]
theorem slice_lay (s:ByteArray)(i j:Nat)(jj:Int)(hj:jj=(j:Int))(h1:i≤j)(h2:j≤s.size)(w:World) :
  (Instr.slice 9 (.string s) (some (.int .i64 (i:Int))) (some (.int .i64 jj)) none).run Tryz.prog w = .ok (.string (s.extract i j)) w:=by
 subst hj
 have:=run_slice_string (P:=Tryz.prog) w 9 s .i64 .i64 (i:Int) (j:Int) Tryz.underlying9 (by omega) (by omega) (by omega)
 simpa using this
theorem clo51 (s:ByteArray)(b p k:Nat)(w:World)(hp:p≤k)(hk:k<s.size)(hs:s.size≤281474976710656)(hc:w.cell? ⟨b,0,none⟩=some (.string s))(hd:w.cell? ⟨b+1,0,none⟩=some (.int .i64 (p:Int))) :
  Calls Tryz.prog 267 #[.int .i64 (k:Int),.pointer (some ⟨b,0,none⟩),.pointer (some ⟨b+1,0,none⟩)] w fun e w'=>e = .returned (.bool (signB ((s.data.toList.drop p).take (k+1-p))))∧w=w':=by
 have hsl:=slice_lay s p (k+1) ((k:Int)+1) (by omega) (by omega) (by omega)
 go_enter Tryz.func267,Tryz.ntmps267
 go_wp2_with (go_at_call 237;refine(sign_l _ _).mono ?_;rintro e w' ⟨rfl,rfl⟩)
 go_ret
 exact⟨rfl,rfl⟩
def cloV (c:UInt8)(b:Nat):Value:=
 if spB c then .func (.func 264) #[] #[.pointer (some ⟨b,0,none⟩)]
 else if cmB c then .func (.func 265) #[] #[.pointer (some ⟨b,0,none⟩)]
 else if wdB c then .func (.func 266) #[] #[.pointer (some ⟨b,0,none⟩)]
 else .func (.func 267) #[] #[.pointer (some ⟨b,0,none⟩),.pointer (some ⟨b+1,0,none⟩)]
def TogPost (s:ByteArray)(p:Nat)(c:UInt8)(w:World)(e:Ending)(w':World):Prop:=
 e = .returned (cloV c w.heap.size)∧w'=(w.alloc (.cells #[.string s] 9)).alloc (.cells #[.int .i64 (p:Int)] 3)
theorem together_any (s:ByteArray)(p:Nat)(w:World)(hk:p<s.size):Calls Tryz.prog 235 #[.string s,.int .i64 (p:Int)] w (TogPost s p s[p] w):=by
 cases h1:spB s[p]
 ·cases h2:cmB s[p]
  ·cases h3:wdB s[p]
   ·go_enter Tryz.func235,Tryz.ntmps235
    go_wp2_with (first|(go_at_call 160;refine(space_any _ _).mono ?_;rintro e w' ⟨rfl,rfl⟩) |(go_at_call 161;refine(comment_any _ _).mono ?_;rintro e w' ⟨rfl,rfl⟩) |(go_at_call 252;refine(word_any _ _).mono ?_;rintro e w' ⟨rfl,rfl⟩))
    go_ret
    exact⟨by simp only[cloV,h1,h2,h3,Bool.false_eq_true,if_false];rfl,rfl⟩
   ·go_enter Tryz.func235,Tryz.ntmps235
    go_wp2_with (first|(go_at_call 160;refine(space_any _ _).mono ?_;rintro e w' ⟨rfl,rfl⟩) |(go_at_call 161;refine(comment_any _ _).mono ?_;rintro e w' ⟨rfl,rfl⟩) |(go_at_call 252;refine(word_any _ _).mono ?_;rintro e w' ⟨rfl,rfl⟩))
    go_ret
    exact⟨by simp only[cloV,h1,h2,h3,Bool.false_eq_true,if_false,if_true];rfl,rfl⟩
  ·go_enter Tryz.func235,Tryz.ntmps235
   go_wp2_with (first|(go_at_call 160;refine(space_any _ _).mono ?_;rintro e w' ⟨rfl,rfl⟩) |(go_at_call 161;refine(comment_any _ _).mono ?_;rintro e w' ⟨rfl,rfl⟩) |(go_at_call 252;refine(word_any _ _).mono ?_;rintro e w' ⟨rfl,rfl⟩))
   go_ret
   exact⟨by simp only[cloV,h1,h2,Bool.false_eq_true,if_false,if_true];rfl,rfl⟩
 ·go_enter Tryz.func235,Tryz.ntmps235
  go_wp2_with (first|(go_at_call 160;refine(space_any _ _).mono ?_;rintro e w' ⟨rfl,rfl⟩) |(go_at_call 161;refine(comment_any _ _).mono ?_;rintro e w' ⟨rfl,rfl⟩) |(go_at_call 252;refine(word_any _ _).mono ?_;rintro e w' ⟨rfl,rfl⟩))
  go_ret
  exact⟨by simp only[cloV,h1,if_true];rfl,rfl⟩
end
section
open Go Go.RowKit
def AllIn (q:UInt8→Bool)(l:List UInt8)(a k:Nat):Prop:=∀j (h:j<l.length),a≤j→j<k→q l[j]=true
theorem AllIn.nil (q:UInt8→Bool)(l:List UInt8)(a:Nat):AllIn q l a a:=fun j _ h1 h2=>by omega
theorem AllIn.snoc {q:UInt8→Bool}{l:List UInt8}{a k:Nat}(h:AllIn q l a k)(hk:∀h:k<l.length,q l[k]=true):AllIn q l a (k+1):=fun j hj h1 h2=>by
 by_cases e:j=k
 ·subst e;exact hk hj
 ·exact h j hj h1 (by omega)
theorem tw_len {q:UInt8→Bool}{l:List UInt8}{a k:Nat}(ha:AllIn q l a k)(h1:a≤k)(h2:k≤l.length)(hend:∀h:k<l.length,q l[k]=false):((l.drop a).takeWhile q).length=k-a:=by
 have e:l.drop a=(l.drop a).take (k-a)++l.drop k:=by
  conv=>lhs;rw[← List.take_append_drop (k-a) (l.drop a)]
  rw[List.drop_drop,show a+(k-a)=k by omega]
 rw[e,List.takeWhile_append_of_pos]
 ·have h3:(l.drop k).takeWhile q=[]:=by
   by_cases hk:k<l.length
   ·rw[List.drop_eq_getElem_cons hk,List.takeWhile_cons,hend hk];rfl
   ·rw[List.drop_of_length_le (by omega)];rfl
  rw[h3];simp;omega
 ·intro x hx
  obtain⟨i,hi,rfl⟩:=List.getElem_of_mem hx
  simp at hi ⊢
  exact ha (a+i) (by omega) (by omega) (by omega)
theorem getD_get (s:ByteArray)(p:Nat)(h:p<s.size):s.data.toList.getD p 0=s[p]:=by
 rw[List.getD_eq_getElem?_getD,List.getElem?_eq_getElem (by simpa using h)];rfl
def peF (l:List UInt8)(p:Nat):Nat:=
 p+1+(if spB (l.getD p 0) then ((l.drop (p+1)).takeWhile spB).length else if cmB (l.getD p 0) then ((l.drop (p+1)).takeWhile nlB).length else if wdB (l.getD p 0) then ((l.drop (p+1)).takeWhile wdB).length
  else if signB ((l.drop p).take 2)=true∧p+1<l.length then 1 else 0)
def PePost (l:List UInt8)(p:Nat)(w:World)(e:Ending)(w':World):Prop:=e = .returned (.int .i64 (peF l p:Int))∧Below w.heap.size w w'
theorem piece_sp (s:ByteArray)(p:Nat)(w:World)(hp:p<s.size)(hs:s.size≤281474976710656)(h1:spB s[p]=true):Calls Tryz.prog 159 #[.string s,.int .i64 (p:Int)] w (PePost s.data.toList p w):=by
 have hv:cloV s[p] w.heap.size = .func (.func 264) #[] #[.pointer (some ⟨w.heap.size,0,none⟩)]:=by simp only[cloV,h1,if_true]
 have HG:=Lib.hid (getD_get s p hp)
 have HK:=Lib.hid (show peF s.data.toList p=p+1+((s.data.toList.drop (p+1)).takeWhile spB).length by unfold peF;rw[HG.out];simp only[h1,if_true])
 have HV:=Lib.hid hv
 clear hv h1
 go_enter Tryz.func159,Tryz.ntmps159
 go_wp2_with (go_at_call 235;refine(together_any s p _ hp).mono ?_)
 rintro e w1 ⟨rfl,hw⟩
 rw[HV.out]
 have hc:w1.cell? ⟨w.heap.size,0,none⟩=some (.string s):=by rw[hw];simp
 have hb:Below w.heap.size w w1:=by rw[hw];exact(heap1 w _).alloc (by simp) _
 have HC:=Lib.hid hc
 clear hw hc
 go_wp2
 go_loop [6] (fun i=>∃k:Nat,p+1≤k∧k≤s.size∧i = .int .i64 (k:Int)∧AllIn spB s.data.toList (p+1) k) (fun i=>s.size-(intOf i).toNat)
 case atStart=>exact⟨p+1,Nat.le_refl _,by omega,by go_num,AllIn.nil _ _ _⟩
 case round=>
  obtain⟨k,hk1,hk2,rfl,ha⟩:=hrel
  by_cases hlt:k<s.size
  ·have hlz:(k:Int)<(s.size:Int):=by omega
   cases hq:spB s[k]
   ·have HQ:=Lib.hid hq
    go_wp2_with (go_at_call 264;refine(clo48 s _ k _ hlt HC.out).mono ?_;rintro e w' ⟨rfl,rfl⟩)
    go_ret
    exact⟨ret_int (by rw[HK.out,tw_len ha hk1 (by simpa using hk2) (fun _=>by simpa [ByteArray.getElem_eq_getElem_data]using HQ.out)];omega),hb⟩
   ·have HQ:=Lib.hid hq
    go_wp2_with (go_at_call 264;refine(clo48 s _ k _ hlt HC.out).mono ?_;rintro e w' ⟨rfl,rfl⟩)
    go_round
    case rel=>exact⟨k+1,by omega,by omega,by go_num,ha.snoc (fun _=>by simpa [ByteArray.getElem_eq_getElem_data]using HQ.out)⟩
    case measure=>simp[intOf];omega
  ·have hlz:¬(k:Int)<(s.size:Int):=by omega
   go_wp2
   go_ret
   exact⟨ret_int (by rw[HK.out,tw_len ha hk1 (by simpa using hk2) (fun h=>absurd h (by simpa using hlt))];omega),hb⟩
theorem piece_cm (s:ByteArray)(p:Nat)(w:World)(hp:p<s.size)(hs:s.size≤281474976710656)(h1:spB s[p]=false)(h2:cmB s[p]=true):Calls Tryz.prog 159 #[.string s,.int .i64 (p:Int)] w (PePost s.data.toList p w):=by
 have hv:cloV s[p] w.heap.size = .func (.func 265) #[] #[.pointer (some ⟨w.heap.size,0,none⟩)]:=by simp only[cloV,h1,h2,Bool.false_eq_true,if_false,if_true]
 have HG:=Lib.hid (getD_get s p hp)
 have HK:=Lib.hid (show peF s.data.toList p=p+1+((s.data.toList.drop (p+1)).takeWhile nlB).length by unfold peF;rw[HG.out];simp only[h1,h2,Bool.false_eq_true,if_false,if_true])
 have HV:=Lib.hid hv
 clear hv h1 h2
 go_enter Tryz.func159,Tryz.ntmps159
 go_wp2_with (go_at_call 235;refine(together_any s p _ hp).mono ?_)
 rintro e w1 ⟨rfl,hw⟩
 rw[HV.out]
 have hc:w1.cell? ⟨w.heap.size,0,none⟩=some (.string s):=by rw[hw];simp
 have hb:Below w.heap.size w w1:=by rw[hw];exact(heap1 w _).alloc (by simp) _
 have HC:=Lib.hid hc
 clear hw hc
 go_wp2
 go_loop [6] (fun i=>∃k:Nat,p+1≤k∧k≤s.size∧i = .int .i64 (k:Int)∧AllIn nlB s.data.toList (p+1) k) (fun i=>s.size-(intOf i).toNat)
 case atStart=>exact⟨p+1,Nat.le_refl _,by omega,by go_num,AllIn.nil _ _ _⟩
 case round=>
  obtain⟨k,hk1,hk2,rfl,ha⟩:=hrel
  by_cases hlt:k<s.size
  ·have hlz:(k:Int)<(s.size:Int):=by omega
   cases hq:nlB s[k]
   ·have HQ:=Lib.hid hq
    go_wp2_with (go_at_call 265;refine(clo49 s _ k _ hlt HC.out).mono ?_;rintro e w' ⟨rfl,rfl⟩)
    go_ret
    exact⟨ret_int (by rw[HK.out,tw_len ha hk1 (by simpa using hk2) (fun _=>by simpa [ByteArray.getElem_eq_getElem_data]using HQ.out)];omega),hb⟩
   ·have HQ:=Lib.hid hq
    go_wp2_with (go_at_call 265;refine(clo49 s _ k _ hlt HC.out).mono ?_;rintro e w' ⟨rfl,rfl⟩)
    go_round
    case rel=>exact⟨k+1,by omega,by omega,by go_num,ha.snoc (fun _=>by simpa [ByteArray.getElem_eq_getElem_data]using HQ.out)⟩
    case measure=>simp[intOf];omega
  ·have hlz:¬(k:Int)<(s.size:Int):=by omega
   go_wp2
   go_ret
   exact⟨ret_int (by rw[HK.out,tw_len ha hk1 (by simpa using hk2) (fun h=>absurd h (by simpa using hlt))];omega),hb⟩
theorem piece_wd (s:ByteArray)(p:Nat)(w:World)(hp:p<s.size)(hs:s.size≤281474976710656)(h1:spB s[p]=false)(h2:cmB s[p]=false)(h3:wdB s[p]=true):Calls Tryz.prog 159 #[.string s,.int .i64 (p:Int)] w (PePost s.data.toList p w):=by
 have hv:cloV s[p] w.heap.size = .func (.func 266) #[] #[.pointer (some ⟨w.heap.size,0,none⟩)]:=by simp only[cloV,h1,h2,h3,Bool.false_eq_true,if_false,if_true]
 have HG:=Lib.hid (getD_get s p hp)
 have HK:=Lib.hid (show peF s.data.toList p=p+1+((s.data.toList.drop (p+1)).takeWhile wdB).length by unfold peF;rw[HG.out];simp only[h1,h2,h3,Bool.false_eq_true,if_false,if_true])
 have HV:=Lib.hid hv
 clear hv h1 h2 h3
 go_enter Tryz.func159,Tryz.ntmps159
 go_wp2_with (go_at_call 235;refine(together_any s p _ hp).mono ?_)
 rintro e w1 ⟨rfl,hw⟩
 rw[HV.out]
 have hc:w1.cell? ⟨w.heap.size,0,none⟩=some (.string s):=by rw[hw];simp
 have hb:Below w.heap.size w w1:=by rw[hw];exact(heap1 w _).alloc (by simp) _
 have HC:=Lib.hid hc
 clear hw hc
 go_wp2
 go_loop [6] (fun i=>∃k:Nat,p+1≤k∧k≤s.size∧i = .int .i64 (k:Int)∧AllIn wdB s.data.toList (p+1) k) (fun i=>s.size-(intOf i).toNat)
 case atStart=>exact⟨p+1,Nat.le_refl _,by omega,by go_num,AllIn.nil _ _ _⟩
 case round=>
  obtain⟨k,hk1,hk2,rfl,ha⟩:=hrel
  by_cases hlt:k<s.size
  ·have hlz:(k:Int)<(s.size:Int):=by omega
   cases hq:wdB s[k]
   ·have HQ:=Lib.hid hq
    go_wp2_with (go_at_call 266;refine(clo50 s _ k _ hlt HC.out).mono ?_;rintro e w' ⟨rfl,rfl⟩)
    go_ret
    exact⟨ret_int (by rw[HK.out,tw_len ha hk1 (by simpa using hk2) (fun _=>by simpa [ByteArray.getElem_eq_getElem_data]using HQ.out)];omega),hb⟩
   ·have HQ:=Lib.hid hq
    go_wp2_with (go_at_call 266;refine(clo50 s _ k _ hlt HC.out).mono ?_;rintro e w' ⟨rfl,rfl⟩)
    go_round
    case rel=>exact⟨k+1,by omega,by omega,by go_num,ha.snoc (fun _=>by simpa [ByteArray.getElem_eq_getElem_data]using HQ.out)⟩
    case measure=>simp[intOf];omega
  ·have hlz:¬(k:Int)<(s.size:Int):=by omega
   go_wp2
   go_ret
   exact⟨ret_int (by rw[HK.out,tw_len ha hk1 (by simpa using hk2) (fun h=>absurd h (by simpa using hlt))];omega),hb⟩
end
section
open Go Go.RowKit
theorem signB_len {l:List UInt8}(h:signB l=true):l.length=1∨l.length=2:=by
 simp only[signB,Bool.or_eq_true,beq_iff_eq]at h
 rcases h with((((((((((((((((((((((h |h) |h) |h) |h) |h) |h) |h) |h) |h) |h) |h) |h) |h) |h) |h) |h) |h) |h) |h) |h) |h) |h) |h<;>subst h<;>simp
def SgRel (l:List UInt8)(p k:Nat):Prop:=k=p+1∨(k=p+2∧signB ((l.drop p).take 2)=true∧p+1<l.length)
theorem pe_sg {l:List UInt8}{p:Nat}(h1:spB (l.getD p 0)=false)(h2:cmB (l.getD p 0)=false)(h3:wdB (l.getD p 0)=false):peF l p=p+1+(if signB ((l.drop p).take 2)=true∧p+1<l.length then 1 else 0):=by
 unfold peF;simp only[h1,h2,h3,Bool.false_eq_true,if_false]
theorem sg_end {l:List UInt8}{p k:Nat}(hr:SgRel l p k)(hE:peF l p=p+1+(if signB ((l.drop p).take 2)=true∧p+1<l.length then 1 else 0))(he:k<l.length→signB ((l.drop p).take (k+1-p))=false):k=peF l p:=by
 rw[hE]
 rcases hr with rfl |⟨rfl,h,h'⟩
 ·by_cases hl:p+1<l.length
  ·have:=he hl
   rw[show p+1+1-p=2 by omega]at this
   rw[if_neg (by rw[this];simp)]
  ·rw[if_neg (fun h=>hl h.2)]
 ·rw[if_pos ⟨h,h'⟩]
theorem sg_next {l:List UInt8}{p k:Nat}(hr:SgRel l p k)(hk:k<l.length)(he:signB ((l.drop p).take (k+1-p))=true):SgRel l p (k+1):=by
 rcases hr with rfl |⟨rfl,h,h'⟩
 ·rw[show p+1+1-p=2 by omega]at he
  exact .inr ⟨rfl,he,hk⟩
 ·exfalso
  have:=signB_len he
  simp at this
  omega
theorem piece_sg (s:ByteArray)(p:Nat)(w:World)(hp:p<s.size)(hs:s.size≤281474976710656)(h1:spB s[p]=false)(h2:cmB s[p]=false)(h3:wdB s[p]=false):Calls Tryz.prog 159 #[.string s,.int .i64 (p:Int)] w (PePost s.data.toList p w):=by
 have hv:cloV s[p] w.heap.size = .func (.func 267) #[] #[.pointer (some ⟨w.heap.size,0,none⟩),.pointer (some ⟨w.heap.size+1,0,none⟩)]:=by simp only[cloV,h1,h2,h3,Bool.false_eq_true,if_false]
 have hg:=getD_get s p hp
 have hl:s.data.toList.length=s.size:=by simp
 have HE:=Lib.hid (pe_sg (l:=s.data.toList) (p:=p) (by rw[hg];exact h1) (by rw[hg];exact h2) (by rw[hg];exact h3))
 have HL:=Lib.hid hl
 have HV:=Lib.hid hv
 clear hv h1 h2 h3 hg hl
 go_enter Tryz.func159,Tryz.ntmps159
 go_wp2_with (go_at_call 235;refine(together_any s p _ hp).mono ?_)
 rintro e w1 ⟨rfl,hw⟩
 rw[HV.out]
 have hc:w1.cell? ⟨w.heap.size,0,none⟩=some (.string s):=by rw[hw];simp
 have hd:w1.cell? ⟨w.heap.size+1,0,none⟩=some (.int .i64 (p:Int)):=by rw[hw];simp
 have hb:Below w.heap.size w w1:=by rw[hw];exact(heap1 w _).alloc (by simp) _
 have HC:=Lib.hid hc
 have HD:=Lib.hid hd
 clear hw hc hd
 go_wp2
 go_loop [6] (fun i=>∃k:Nat,p+1≤k∧k≤s.size∧i = .int .i64 (k:Int)∧SgRel s.data.toList p k) (fun i=>s.size-(intOf i).toNat)
 case atStart=>exact⟨p+1,Nat.le_refl _,by omega,by go_num,.inl rfl⟩
 case round=>
  obtain⟨k,hk1,hk2,rfl,ha⟩:=hrel
  by_cases hlt:k<s.size
  ·have hlz:(k:Int)<(s.size:Int):=by omega
   cases hq:signB ((s.data.toList.drop p).take (k+1-p))
   ·have HQ:=Lib.hid hq
    go_wp2_with (go_at_call 267;refine(clo51 s _ p k _ (by omega) hlt hs HC.out HD.out).mono ?_;rintro e w' ⟨rfl,rfl⟩)
    go_ret
    exact⟨ret_int (by rw[← sg_end ha HE.out (fun _=>HQ.out)]),hb⟩
   ·have HQ:=Lib.hid hq
    go_wp2_with (go_at_call 267;refine(clo51 s _ p k _ (by omega) hlt hs HC.out HD.out).mono ?_;rintro e w' ⟨rfl,rfl⟩)
    go_round
    case rel=>exact⟨k+1,by omega,by omega,by go_num,sg_next ha (by rw[HL.out];exact hlt) HQ.out⟩
    case measure=>simp[intOf];omega
  ·have hlz:¬(k:Int)<(s.size:Int):=by omega
   go_wp2
   go_ret
   exact⟨ret_int (by rw[← sg_end ha HE.out (fun h=>absurd h (by rw[HL.out];exact hlt))]),hb⟩
theorem piece_any (s:ByteArray)(p:Nat)(w:World)(hp:p<s.size)(hs:s.size≤281474976710656):Calls Tryz.prog 159 #[.string s,.int .i64 (p:Int)] w (PePost s.data.toList p w):=by
 cases h1:spB s[p]
 ·cases h2:cmB s[p]
  ·cases h3:wdB s[p]
   ·exact piece_sg s p w hp hs h1 h2 h3
   ·exact piece_wd s p w hp hs h1 h2 h3
  ·exact piece_cm s p w hp hs h1 h2
 ·exact piece_sp s p w hp hs h1
theorem tw_le {q:UInt8→Bool}(l:List UInt8):(l.takeWhile q).length≤l.length:=by
 exact(List.takeWhile_prefix q).length_le
theorem peF_bounds {l:List UInt8}{p:Nat}(hp:p<l.length):p+1≤peF l p∧peF l p≤l.length:=by
 refine⟨by unfold peF;omega,?_⟩
 unfold peF
 have a:=tw_le (q:=spB) (l.drop (p+1))
 have b:=tw_le (q:=nlB) (l.drop (p+1))
 have c:=tw_le (q:=wdB) (l.drop (p+1))
 simp only[List.length_drop]at a b c
 split
 ·omega
 ·split
  ·omega
  ·split
   ·omega
   ·split<;>omega
end
end
end Go.Proofs.YteecfjhjllajlaaGreatDoor.Tk
