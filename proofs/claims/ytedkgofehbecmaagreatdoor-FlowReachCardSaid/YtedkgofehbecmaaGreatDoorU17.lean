/- PROVED here: parts N17 of the claim. No condition but those in each theorem's own head. -/
import Derived.Test.YtedkgofehbecmaaGreatDoorU01
import Derived.Laws.Strings2
import Derived.Test.YtedkgofehbecmaaGreatDoorU15
import Derived.Test.YtedkgofehbecmaaGreatDoorU16
namespace Go.Proofs.YtedkgofehbecmaaGreatDoor.Tk
open Go.Lib (hid)
section
open Go Go.RowKit
def nlB (c:UInt8):Bool:=c.toNat != 10
theorem clo48 (s:ByteArray)(b k:Nat)(w:World)(hk:k<s.size)(hc:w.cell? ⟨b,0,none⟩=some (.string s)):Calls Tryz.prog 242 #[.int .i64 (k:Int),.pointer (some ⟨b,0,none⟩)] w λe w'=>e = .returned (.bool (spB s[k]))/\w=w':=by
 go_enter Tryz.func242,Tryz.ntmps242
 go_wp2_with (go_at_call 169;refine(space_any _ _).mono ?_;rintro e w' ⟨rfl,rfl⟩)
 go_ret
 simp
theorem clo49 (s:ByteArray)(b k:Nat)(w:World)(hk:k<s.size)(hc:w.cell? ⟨b,0,none⟩=some (.string s)):Calls Tryz.prog 243 #[.int .i64 (k:Int),.pointer (some ⟨b,0,none⟩)] w λe w'=>e = .returned (.bool (nlB s[k]))/\w=w':=by
 have hb:nlB s[k]=((s[k].toNat:Int) != 10):=by unfold nlB;rw[Bool.eq_iff_iff];simp;omega
 rw[hb];clear hb
 generalize hq:((s[k].toNat:Int) != 10)=q at *
 go_enter Tryz.func243,Tryz.ntmps243
 go_wp2
 go_ret
 simp
theorem clo50 (s:ByteArray)(b k:Nat)(w:World)(hk:k<s.size)(hc:w.cell? ⟨b,0,none⟩=some (.string s)):Calls Tryz.prog 245 #[.int .i64 (k:Int),.pointer (some ⟨b,0,none⟩)] w λe w'=>e = .returned (.bool (wdB s[k]))/\w=w':=by
 go_enter Tryz.func245,Tryz.ntmps245
 go_wp2_with (go_at_call 244;refine(word_any _ _).mono ?_;rintro e w' ⟨rfl,rfl⟩)
 go_ret
 simp
theorem sub_list (s:ByteArray)(a b:Nat):(s.extract a b).data.toList=(s.data.toList.drop a).take (b-a):=by
 rw[ByteArray.data_extract,Array.toList_extract,List.extract_eq_take_drop]
theorem slice_lay (s:ByteArray)(i j:Nat)(jj:Int)(hj:jj=(j:Int))(h1:i<=j)(h2:j<=s.size)(w:World) :
  (Instr.slice 9 (.string s) (some (.int .i64 (i:Int))) (some (.int .i64 jj)) none).run Tryz.prog w = .ok (.string (s.extract i j)) w:=by
 subst hj
 have:=run_slice_string (P:=Tryz.prog) w 9 s .i64 .i64 (i:Int) (j:Int) Tryz.underlying9 (by omega) (by omega) (by omega)
 simpa using this
set_option maxRecDepth 100000 in
theorem clo51 (s:ByteArray)(b p k:Nat)(w:World)(hp:p<=k)(hk:k<s.size)(hs:s.size<=281474976710656)(hc:w.cell? ⟨b,0,none⟩=some (.string s))(hd:w.cell? ⟨b+1,0,none⟩=some (.int .i64 (p:Int))) :
  Calls Tryz.prog 246 #[.int .i64 (k:Int),.pointer (some ⟨b,0,none⟩),.pointer (some ⟨b+1,0,none⟩)] w λe w'=>e = .returned (.bool (signB ((s.data.toList.drop p).take (k+1-p))))/\w=w':=by
 have hsl:=slice_lay s p (k+1) ((k:Int)+1) (by omega) (by omega) (by omega)
 go_enter Tryz.func246,Tryz.ntmps246
 go_wp2_with (go_at_call 209;refine(sign_l _ _).mono ?_;rintro e w' ⟨rfl,rfl⟩)
 go_ret
 exact⟨rfl,rfl⟩
def cloV (c:UInt8)(b:Nat):Value:=
 if spB c then .func (.func 242) #[] #[.pointer (some ⟨b,0,none⟩)]
 else if cmB c then .func (.func 243) #[] #[.pointer (some ⟨b,0,none⟩)]
 else if wdB c then .func (.func 245) #[] #[.pointer (some ⟨b,0,none⟩)]
 else .func (.func 246) #[] #[.pointer (some ⟨b,0,none⟩),.pointer (some ⟨b+1,0,none⟩)]
def TogPost (s:ByteArray)(p:Nat)(c:UInt8)(w:World)(e:Ending)(w':World):Prop:=
 e = .returned (cloV c w.heap.size)/\w'=(w.alloc (.cells #[.string s] 9)).alloc (.cells #[.int .i64 (p:Int)] 3)
set_option maxRecDepth 100000 in
theorem together_any (s:ByteArray)(p:Nat)(w:World)(hk:p<s.size):Calls Tryz.prog 206 #[.string s,.int .i64 (p:Int)] w (TogPost s p s[p] w):=by
 cases h1:spB s[p]
 ·cases h2:cmB s[p]
  ·cases h3:wdB s[p]
   ·go_enter Tryz.func206,Tryz.ntmps206
    go_wp2_with (first|(go_at_call 169;refine(space_any _ _).mono ?_;rintro e w' ⟨rfl,rfl⟩) |(go_at_call 170;refine(comment_any _ _).mono ?_;rintro e w' ⟨rfl,rfl⟩) |(go_at_call 244;refine(word_any _ _).mono ?_;rintro e w' ⟨rfl,rfl⟩))
    go_ret
    exact⟨by simp only[cloV,h1,h2,h3,Bool.false_eq_true,if_false];rfl,rfl⟩
   ·go_enter Tryz.func206,Tryz.ntmps206
    go_wp2_with (first|(go_at_call 169;refine(space_any _ _).mono ?_;rintro e w' ⟨rfl,rfl⟩) |(go_at_call 170;refine(comment_any _ _).mono ?_;rintro e w' ⟨rfl,rfl⟩) |(go_at_call 244;refine(word_any _ _).mono ?_;rintro e w' ⟨rfl,rfl⟩))
    go_ret
    exact⟨by simp only[cloV,h1,h2,h3,Bool.false_eq_true,if_false,if_true];rfl,rfl⟩
  ·go_enter Tryz.func206,Tryz.ntmps206
   go_wp2_with (first|(go_at_call 169;refine(space_any _ _).mono ?_;rintro e w' ⟨rfl,rfl⟩) |(go_at_call 170;refine(comment_any _ _).mono ?_;rintro e w' ⟨rfl,rfl⟩) |(go_at_call 244;refine(word_any _ _).mono ?_;rintro e w' ⟨rfl,rfl⟩))
   go_ret
   exact⟨by simp only[cloV,h1,h2,Bool.false_eq_true,if_false,if_true];rfl,rfl⟩
 ·go_enter Tryz.func206,Tryz.ntmps206
  go_wp2_with (first|(go_at_call 169;refine(space_any _ _).mono ?_;rintro e w' ⟨rfl,rfl⟩) |(go_at_call 170;refine(comment_any _ _).mono ?_;rintro e w' ⟨rfl,rfl⟩) |(go_at_call 244;refine(word_any _ _).mono ?_;rintro e w' ⟨rfl,rfl⟩))
  go_ret
  exact⟨by simp only[cloV,h1,if_true];rfl,rfl⟩
end
section
open Go Go.RowKit
def AllIn (q:UInt8->Bool)(l:List UInt8)(a k:Nat):Prop:=∀j (h:j<l.length),a<=j->j<k->q l[j]=true
theorem AllIn.nil (q:UInt8->Bool)(l:List UInt8)(a:Nat):AllIn q l a a:=λj _ h1 h2=>by omega
theorem AllIn.snoc {q:UInt8->Bool}{l:List UInt8}{a k:Nat}(h:AllIn q l a k)(hk:∀h:k<l.length,q l[k]=true):AllIn q l a (k+1):=λj hj h1 h2=>by
 by_cases e:j=k
 ·subst e;exact hk hj
 ·exact h j hj h1 (by omega)
theorem tw_len {q:UInt8->Bool}{l:List UInt8}{a k:Nat}(ha:AllIn q l a k)(h1:a<=k)(h2:k<=l.length)(hend:∀h:k<l.length,q l[k]=false):((l.drop a).takeWhile q).length=k-a:=by
 have e:l.drop a=(l.drop a).take (k-a)++l.drop k:=by
  conv=>lhs;rw[<- List.take_append_drop (k-a) (l.drop a)]
  rw[List.drop_drop,show a+(k-a)=k by omega]
 rw[e,List.takeWhile_append_of_pos]
 ·have h3:(l.drop k).takeWhile q=[]:=by
   by_cases hk:k<l.length
   ·rw[List.drop_eq_getElem_cons hk,List.takeWhile_cons,hend hk];rfl
   ·rw[List.drop_of_length_le (by omega)];rfl
  rw[h3];simp;omega
 ·intro x hx
  obtain⟨i,hi,rfl⟩:=List.getElem_of_mem hx
  simp at hi |-
  exact ha (a+i) (by omega) (by omega) (by omega)
theorem getD_get (s:ByteArray)(p:Nat)(h:p<s.size):s.data.toList.getD p 0=s[p]:=by
 rw[List.getD_eq_getElem?_getD,List.getElem?_eq_getElem (by simpa using h)];rfl
def peF (l:List UInt8)(p:Nat):Nat:=
 p+1+(if spB (l.getD p 0) then ((l.drop (p+1)).takeWhile spB).length else if cmB (l.getD p 0) then ((l.drop (p+1)).takeWhile nlB).length else if wdB (l.getD p 0) then ((l.drop (p+1)).takeWhile wdB).length
  else if signB ((l.drop p).take 2)=true/\p+1<l.length then 1 else 0)
def PePost (l:List UInt8)(p:Nat)(w:World)(e:Ending)(w':World):Prop:=e = .returned (.int .i64 (peF l p:Int))/\Below w.heap.size w w'
set_option maxRecDepth 100000 in
set_option maxHeartbeats 1000000 in
theorem piece_sp (s:ByteArray)(p:Nat)(w:World)(hp:p<s.size)(hs:s.size<=281474976710656)(h1:spB s[p]=true):Calls Tryz.prog 168 #[.string s,.int .i64 (p:Int)] w (PePost s.data.toList p w):=by
 have hv:cloV s[p] w.heap.size = .func (.func 242) #[] #[.pointer (some ⟨w.heap.size,0,none⟩)]:=by simp only[cloV,h1,if_true]
 have HG:=hid (getD_get s p hp)
 have HK:=hid (show peF s.data.toList p=p+1+((s.data.toList.drop (p+1)).takeWhile spB).length by unfold peF;rw[HG.out];simp only[h1,if_true])
 have HV:=hid hv
 clear hv h1
 go_enter Tryz.func168,Tryz.ntmps168
 go_wp2_with (go_at_call 206;refine(together_any s p _ hp).mono ?_)
 rintro e w1 ⟨rfl,hw⟩
 rw[HV.out]
 have hc:w1.cell? ⟨w.heap.size,0,none⟩=some (.string s):=by rw[hw];simp
 have hb:Below w.heap.size w w1:=by rw[hw];exact(heap1 w _).alloc (by simp) _
 have HC:=hid hc
 clear hw hc
 go_wp2
 go_loop [6] (λi=>∃k:Nat,p+1<=k/\k<=s.size/\i = .int .i64 (k:Int)/\AllIn spB s.data.toList (p+1) k) (λi=>s.size-(intOf i).toNat)
 case atStart=>exact⟨p+1,Nat.le_refl _,by omega,by go_num,AllIn.nil _ _ _⟩
 case round=>
  obtain⟨k,hk1,hk2,rfl,ha⟩:=hrel
  by_cases hlt:k<s.size
  ·have hlz:(k:Int)<(s.size:Int):=by omega
   cases hq:spB s[k]
   ·have HQ:=hid hq
    go_wp2_with (go_at_call 242;refine(clo48 s _ k _ hlt HC.out).mono ?_;rintro e w' ⟨rfl,rfl⟩)
    go_ret
    exact⟨ret_int (by rw[HK.out,tw_len ha hk1 (by simpa using hk2) (λ_=>by simpa [ByteArray.getElem_eq_getElem_data]using HQ.out)];omega),hb⟩
   ·have HQ:=hid hq
    go_wp2_with (go_at_call 242;refine(clo48 s _ k _ hlt HC.out).mono ?_;rintro e w' ⟨rfl,rfl⟩)
    go_round
    case rel=>exact⟨k+1,by omega,by omega,by go_num,ha.snoc (λ_=>by simpa [ByteArray.getElem_eq_getElem_data]using HQ.out)⟩
    case measure=>simp[intOf];omega
  ·have hlz:¬(k:Int)<(s.size:Int):=by omega
   go_wp2
   go_ret
   exact⟨ret_int (by rw[HK.out,tw_len ha hk1 (by simpa using hk2) (λh=>absurd h (by simpa using hlt))];omega),hb⟩
set_option maxRecDepth 100000 in
set_option maxHeartbeats 1000000 in
theorem piece_cm (s:ByteArray)(p:Nat)(w:World)(hp:p<s.size)(hs:s.size<=281474976710656)(h1:spB s[p]=false)(h2:cmB s[p]=true):Calls Tryz.prog 168 #[.string s,.int .i64 (p:Int)] w (PePost s.data.toList p w):=by
 have hv:cloV s[p] w.heap.size = .func (.func 243) #[] #[.pointer (some ⟨w.heap.size,0,none⟩)]:=by simp only[cloV,h1,h2,Bool.false_eq_true,if_false,if_true]
 have HG:=hid (getD_get s p hp)
 have HK:=hid (show peF s.data.toList p=p+1+((s.data.toList.drop (p+1)).takeWhile nlB).length by unfold peF;rw[HG.out];simp only[h1,h2,Bool.false_eq_true,if_false,if_true])
 have HV:=hid hv
 clear hv h1 h2
 go_enter Tryz.func168,Tryz.ntmps168
 go_wp2_with (go_at_call 206;refine(together_any s p _ hp).mono ?_)
 rintro e w1 ⟨rfl,hw⟩
 rw[HV.out]
 have hc:w1.cell? ⟨w.heap.size,0,none⟩=some (.string s):=by rw[hw];simp
 have hb:Below w.heap.size w w1:=by rw[hw];exact(heap1 w _).alloc (by simp) _
 have HC:=hid hc
 clear hw hc
 go_wp2
 go_loop [6] (λi=>∃k:Nat,p+1<=k/\k<=s.size/\i = .int .i64 (k:Int)/\AllIn nlB s.data.toList (p+1) k) (λi=>s.size-(intOf i).toNat)
 case atStart=>exact⟨p+1,Nat.le_refl _,by omega,by go_num,AllIn.nil _ _ _⟩
 case round=>
  obtain⟨k,hk1,hk2,rfl,ha⟩:=hrel
  by_cases hlt:k<s.size
  ·have hlz:(k:Int)<(s.size:Int):=by omega
   cases hq:nlB s[k]
   ·have HQ:=hid hq
    go_wp2_with (go_at_call 243;refine(clo49 s _ k _ hlt HC.out).mono ?_;rintro e w' ⟨rfl,rfl⟩)
    go_ret
    exact⟨ret_int (by rw[HK.out,tw_len ha hk1 (by simpa using hk2) (λ_=>by simpa [ByteArray.getElem_eq_getElem_data]using HQ.out)];omega),hb⟩
   ·have HQ:=hid hq
    go_wp2_with (go_at_call 243;refine(clo49 s _ k _ hlt HC.out).mono ?_;rintro e w' ⟨rfl,rfl⟩)
    go_round
    case rel=>exact⟨k+1,by omega,by omega,by go_num,ha.snoc (λ_=>by simpa [ByteArray.getElem_eq_getElem_data]using HQ.out)⟩
    case measure=>simp[intOf];omega
  ·have hlz:¬(k:Int)<(s.size:Int):=by omega
   go_wp2
   go_ret
   exact⟨ret_int (by rw[HK.out,tw_len ha hk1 (by simpa using hk2) (λh=>absurd h (by simpa using hlt))];omega),hb⟩
set_option maxRecDepth 100000 in
set_option maxHeartbeats 1000000 in
theorem piece_wd (s:ByteArray)(p:Nat)(w:World)(hp:p<s.size)(hs:s.size<=281474976710656)(h1:spB s[p]=false)(h2:cmB s[p]=false)(h3:wdB s[p]=true):Calls Tryz.prog 168 #[.string s,.int .i64 (p:Int)] w (PePost s.data.toList p w):=by
 have hv:cloV s[p] w.heap.size = .func (.func 245) #[] #[.pointer (some ⟨w.heap.size,0,none⟩)]:=by simp only[cloV,h1,h2,h3,Bool.false_eq_true,if_false,if_true]
 have HG:=hid (getD_get s p hp)
 have HK:=hid (show peF s.data.toList p=p+1+((s.data.toList.drop (p+1)).takeWhile wdB).length by unfold peF;rw[HG.out];simp only[h1,h2,h3,Bool.false_eq_true,if_false,if_true])
 have HV:=hid hv
 clear hv h1 h2 h3
 go_enter Tryz.func168,Tryz.ntmps168
 go_wp2_with (go_at_call 206;refine(together_any s p _ hp).mono ?_)
 rintro e w1 ⟨rfl,hw⟩
 rw[HV.out]
 have hc:w1.cell? ⟨w.heap.size,0,none⟩=some (.string s):=by rw[hw];simp
 have hb:Below w.heap.size w w1:=by rw[hw];exact(heap1 w _).alloc (by simp) _
 have HC:=hid hc
 clear hw hc
 go_wp2
 go_loop [6] (λi=>∃k:Nat,p+1<=k/\k<=s.size/\i = .int .i64 (k:Int)/\AllIn wdB s.data.toList (p+1) k) (λi=>s.size-(intOf i).toNat)
 case atStart=>exact⟨p+1,Nat.le_refl _,by omega,by go_num,AllIn.nil _ _ _⟩
 case round=>
  obtain⟨k,hk1,hk2,rfl,ha⟩:=hrel
  by_cases hlt:k<s.size
  ·have hlz:(k:Int)<(s.size:Int):=by omega
   cases hq:wdB s[k]
   ·have HQ:=hid hq
    go_wp2_with (go_at_call 245;refine(clo50 s _ k _ hlt HC.out).mono ?_;rintro e w' ⟨rfl,rfl⟩)
    go_ret
    exact⟨ret_int (by rw[HK.out,tw_len ha hk1 (by simpa using hk2) (λ_=>by simpa [ByteArray.getElem_eq_getElem_data]using HQ.out)];omega),hb⟩
   ·have HQ:=hid hq
    go_wp2_with (go_at_call 245;refine(clo50 s _ k _ hlt HC.out).mono ?_;rintro e w' ⟨rfl,rfl⟩)
    go_round
    case rel=>exact⟨k+1,by omega,by omega,by go_num,ha.snoc (λ_=>by simpa [ByteArray.getElem_eq_getElem_data]using HQ.out)⟩
    case measure=>simp[intOf];omega
  ·have hlz:¬(k:Int)<(s.size:Int):=by omega
   go_wp2
   go_ret
   exact⟨ret_int (by rw[HK.out,tw_len ha hk1 (by simpa using hk2) (λh=>absurd h (by simpa using hlt))];omega),hb⟩
end
section
open Go Go.RowKit
theorem signB_len {l:List UInt8}(h:signB l=true):l.length=1\/l.length=2:=by
 simp only[signB,Bool.or_eq_true,beq_iff_eq]at h
 rcases h with((((((((((((((((((((((h |h) |h) |h) |h) |h) |h) |h) |h) |h) |h) |h) |h) |h) |h) |h) |h) |h) |h) |h) |h) |h) |h) |h<;>subst h<;>simp
def SgRel (l:List UInt8)(p k:Nat):Prop:=k=p+1\/(k=p+2/\signB ((l.drop p).take 2)=true/\p+1<l.length)
theorem pe_sg {l:List UInt8}{p:Nat}(h1:spB (l.getD p 0)=false)(h2:cmB (l.getD p 0)=false)(h3:wdB (l.getD p 0)=false):peF l p=p+1+(if signB ((l.drop p).take 2)=true/\p+1<l.length then 1 else 0):=by
 unfold peF;simp only[h1,h2,h3,Bool.false_eq_true,if_false]
theorem sg_end {l:List UInt8}{p k:Nat}(hr:SgRel l p k)(hE:peF l p=p+1+(if signB ((l.drop p).take 2)=true/\p+1<l.length then 1 else 0))(he:k<l.length->signB ((l.drop p).take (k+1-p))=false):k=peF l p:=by
 rw[hE]
 rcases hr with rfl |⟨rfl,h,h'⟩
 ·by_cases hl:p+1<l.length
  ·have:=he hl
   rw[show p+1+1-p=2 by omega]at this
   rw[if_neg (by rw[this];simp)]
  ·rw[if_neg (λh=>hl h.2)]
 ·rw[if_pos ⟨h,h'⟩]
theorem sg_next {l:List UInt8}{p k:Nat}(hr:SgRel l p k)(hk:k<l.length)(he:signB ((l.drop p).take (k+1-p))=true):SgRel l p (k+1):=by
 rcases hr with rfl |⟨rfl,h,h'⟩
 ·rw[show p+1+1-p=2 by omega]at he
  exact .inr ⟨rfl,he,hk⟩
 ·exfalso
  have:=signB_len he
  simp at this
  omega
set_option maxRecDepth 100000 in
set_option maxHeartbeats 1000000 in
theorem piece_sg (s:ByteArray)(p:Nat)(w:World)(hp:p<s.size)(hs:s.size<=281474976710656)(h1:spB s[p]=false)(h2:cmB s[p]=false)(h3:wdB s[p]=false):Calls Tryz.prog 168 #[.string s,.int .i64 (p:Int)] w (PePost s.data.toList p w):=by
 have hv:cloV s[p] w.heap.size = .func (.func 246) #[] #[.pointer (some ⟨w.heap.size,0,none⟩),.pointer (some ⟨w.heap.size+1,0,none⟩)]:=by simp only[cloV,h1,h2,h3,Bool.false_eq_true,if_false]
 have hg:=getD_get s p hp
 have hl:s.data.toList.length=s.size:=by simp
 have HE:=hid (pe_sg (l:=s.data.toList) (p:=p) (by rw[hg];exact h1) (by rw[hg];exact h2) (by rw[hg];exact h3))
 have HL:=hid hl
 have HV:=hid hv
 clear hv h1 h2 h3 hg hl
 go_enter Tryz.func168,Tryz.ntmps168
 go_wp2_with (go_at_call 206;refine(together_any s p _ hp).mono ?_)
 rintro e w1 ⟨rfl,hw⟩
 rw[HV.out]
 have hc:w1.cell? ⟨w.heap.size,0,none⟩=some (.string s):=by rw[hw];simp
 have hd:w1.cell? ⟨w.heap.size+1,0,none⟩=some (.int .i64 (p:Int)):=by rw[hw];simp
 have hb:Below w.heap.size w w1:=by rw[hw];exact(heap1 w _).alloc (by simp) _
 have HC:=hid hc
 have HD:=hid hd
 clear hw hc hd
 go_wp2
 go_loop [6] (λi=>∃k:Nat,p+1<=k/\k<=s.size/\i = .int .i64 (k:Int)/\SgRel s.data.toList p k) (λi=>s.size-(intOf i).toNat)
 case atStart=>exact⟨p+1,Nat.le_refl _,by omega,by go_num,.inl rfl⟩
 case round=>
  obtain⟨k,hk1,hk2,rfl,ha⟩:=hrel
  by_cases hlt:k<s.size
  ·have hlz:(k:Int)<(s.size:Int):=by omega
   cases hq:signB ((s.data.toList.drop p).take (k+1-p))
   ·have HQ:=hid hq
    go_wp2_with (go_at_call 246;refine(clo51 s _ p k _ (by omega) hlt hs HC.out HD.out).mono ?_;rintro e w' ⟨rfl,rfl⟩)
    go_ret
    exact⟨ret_int (by rw[<- sg_end ha HE.out (λ_=>HQ.out)]),hb⟩
   ·have HQ:=hid hq
    go_wp2_with (go_at_call 246;refine(clo51 s _ p k _ (by omega) hlt hs HC.out HD.out).mono ?_;rintro e w' ⟨rfl,rfl⟩)
    go_round
    case rel=>exact⟨k+1,by omega,by omega,by go_num,sg_next ha (by rw[HL.out];exact hlt) HQ.out⟩
    case measure=>simp[intOf];omega
  ·have hlz:¬(k:Int)<(s.size:Int):=by omega
   go_wp2
   go_ret
   exact⟨ret_int (by rw[<- sg_end ha HE.out (λh=>absurd h (by rw[HL.out];exact hlt))]),hb⟩
theorem piece_any (s:ByteArray)(p:Nat)(w:World)(hp:p<s.size)(hs:s.size<=281474976710656):Calls Tryz.prog 168 #[.string s,.int .i64 (p:Int)] w (PePost s.data.toList p w):=by
 cases h1:spB s[p]
 ·cases h2:cmB s[p]
  ·cases h3:wdB s[p]
   ·exact piece_sg s p w hp hs h1 h2 h3
   ·exact piece_wd s p w hp hs h1 h2 h3
  ·exact piece_cm s p w hp hs h1 h2
 ·exact piece_sp s p w hp hs h1
theorem tw_le {q:UInt8->Bool}(l:List UInt8):(l.takeWhile q).length<=l.length:=by
 exact(List.takeWhile_prefix q).length_le
theorem peF_bounds {l:List UInt8}{p:Nat}(hp:p<l.length):p+1<=peF l p/\peF l p<=l.length:=by
 refine⟨by unfold peF;omega,?_⟩
 unfold peF
 have a:=tw_le (q:=spB) (l.drop (p+1))
 have b:=tw_le (q:=nlB) (l.drop (p+1))
 have c:=tw_le (q:=wdB) (l.drop (p+1))
 simp only[List.length_drop]at a b c
 split
 ·omega
 ·split
  ·omega
  ·split
   ·omega
   ·split<;>omega
end
end Go.Proofs.YtedkgofehbecmaaGreatDoor.Tk
namespace Go.Proofs.YtedkgofehbecmaaGreatDoor.Tk
open Go.Lib (hid)
section
open Go Go.RowKit
structure Tok where
 k:Nat
 n:Int
 p:Nat
 s:List UInt8
deriving DecidableEq,Repr
def bs (l:List UInt8):ByteArray:=⟨l.toArray⟩
theorem bs_list (l:List UInt8):(bs l).data.toList=l:=by simp[bs]
theorem bs_of (s:ByteArray):bs s.data.toList=s:=by cases s;simp[bs]
def tcv (t:Tok):List Value:=[.int .i64 (t.k:Int),.int .i64 t.n,.int .i64 (t.p:Int),.string (bs t.s)]
def tfl (ts:List Tok):List Value:=ts.flatMap tcv
theorem tfl_cons (t:Tok)(ts:List Tok):tfl (t :: ts)=tcv t++tfl ts:=rfl
theorem tfl_app (a b:List Tok):tfl (a++b)=tfl a++tfl b:=by unfold tfl;rw[List.flatMap_append]
theorem tfl_get:∀(ts:List Tok) (j:Nat) (hj:j<ts.length) (i:Nat),i<4->(tfl ts)[j*4+i]?=(tcv ts[j])[i]?
 |t :: ts,0,_,i,hi=>by
  rw[tfl_cons,List.getElem?_append_left (by simp[tcv];omega)];simp
 |t :: ts,j+1,hj,i,hi=>by
  rw[tfl_cons,List.getElem?_append_right (by simp[tcv];omega)]
  have ih:=tfl_get ts j (by simpa using hj) i hi
  rw[show(j+1)*4+i-(tcv t).length=j*4+i by simp[tcv];omega,ih]
  rfl
def Toks (w:World)(A:Option Addr)(ts:List Tok):Prop:=
 0<ts.length->∃b off,A=some ⟨b,off,none⟩/\b<w.heap.size/\∀j (hj:j<ts.length) i,i<4->w.cell? ⟨b,off+j*4+i,none⟩=(tcv ts[j])[i]?
theorem own_below {w w':World}{base e size n:Nat}{v:Value}{xs:List Value}(h:w.ownsRow base e size v n xs)(hb:Below w.heap.size w w'):w'.ownsRow base e size v n xs:=
 h.kept (row:=none) ⟨hb.os,hb.tape,hb.output,hb.size,λi hi _=>hb.block i hi⟩ (by cases h:v.ownBlock<;>simp)
theorem toks_own {w:World}{base:Nat}{v:Value}{ts:List Tok}(h:w.ownsRow base 186 4 v ts.length (tfl ts)):∃A c,v = .slice A ts.length c/\Toks w A ts/\∀a,A=some a->base<=a.block:=by
 rcases h.2 with⟨rfl,e⟩ |⟨g,cap,cur,rfl,hb,hg,hn,_,_,ht⟩
 ·exact⟨none,0,by rw[e],λh0=>by omega,λa e=>by cases e⟩
 ·refine⟨_,cap,rfl,λh0=>⟨g,0,rfl,(Array.getElem?_eq_some_iff.1 hg).1,λj hj i hi =>?_⟩,λa e=>by injection e with e;subst e;exact hb⟩
  have h1:=tfl_get ts j hj i hi
  rw[<- ht,List.getElem?_take,if_pos (by omega)]at h1
  rw[Nat.zero_add,cell_of_row w g (j*4+i) cur 186 (0,0) hg,<- h1]
  simp
inductive Res where
 |ok (l:List Tok)
 |bad (p:Nat)
deriving DecidableEq
def Res.pre (a:List Tok):Res->Res
 | .ok l =>.ok (a++l)
 | .bad p =>.bad p
theorem Res.pre_nil (r:Res):r.pre []=r:=by cases r<;>rfl
theorem Res.pre_pre (a b:List Tok)(r:Res):(r.pre b).pre a=r.pre (a++b):=by cases r<;>simp[Res.pre]
def endT (n:Nat):Tok:=⟨5,0,n,[]⟩
def sub (l:List UInt8)(p q:Nat):List UInt8:=(l.drop p).take (q-p)
def pTok (l:List UInt8)(p q:Nat):Tok:=⟨tokK (sub l p q),tokN (sub l p q),p,sub l p q⟩
def cutN:Nat->List UInt8->Nat->Res
 |0,l,_ =>.ok [endT l.length]
 |f+1,l,p=>
  if p<l.length then
   if spB (l.getD p 0) || cmB (l.getD p 0) then cutN f l (peF l p)
   else if tokK (sub l p (peF l p))=0 then .bad p
   else (cutN f l (peF l p)).pre [pTok l p (peF l p)]
  else .ok [endT l.length]
theorem cutN_more:∀(f:Nat) (l:List UInt8) (p g:Nat),l.length-p<=f->l.length-p<=g->cutN f l p=cutN g l p
 |0,l,p,0,_,_=>rfl
 |0,l,p,g+1,h,_=>by simp only[cutN];rw[if_neg (by omega)]
 |f+1,l,p,0,_,h=>by simp only[cutN];rw[if_neg (by omega)]
 |f+1,l,p,g+1,h1,h2=>by
  simp only[cutN]
  by_cases hp:p<l.length
  ·have:=peF_bounds hp
   rw[if_pos hp,if_pos hp,cutN_more f l (peF l p) g (by omega) (by omega)]
  ·rw[if_neg hp,if_neg hp]
def cutR (l:List UInt8)(p:Nat):Res:=cutN (l.length-p) l p
theorem cutR_end {l:List UInt8}{p:Nat}(h:¬p<l.length):cutR l p = .ok [endT l.length]:=by
 unfold cutR;rw[show l.length-p=0 by omega];rfl
theorem cutR_step {l:List UInt8}{p:Nat}(h:p<l.length):cutR l p=if spB (l.getD p 0) || cmB (l.getD p 0) then cutR l (peF l p)
   else if tokK (sub l p (peF l p))=0 then .bad p
   else (cutR l (peF l p)).pre [pTok l p (peF l p)]:=by
 have hb:=peF_bounds h
 unfold cutR
 obtain⟨m,hm⟩:∃m,l.length-p=m+1:=⟨l.length-p-1,by omega⟩
 rw[hm]
 simp only[cutN]
 rw[if_pos h,cutN_more m l (peF l p) (l.length-peF l p) (by omega) (by omega)]
end
section
open Go Go.RowKit
theorem info34:(Tryz.prog.info? 186).map (λi=>(i.zero,i.size,i.bytes))=some (some (.agg #[.int .i64 0,.int .i64 0,.int .i64 0,.string ⟨#[]⟩]),4,40):=by kernel_rfl
def CutPost (l:List UInt8)(w:World)(e:Ending)(w':World):Prop:=
 Below w.heap.size w w'/\match cutR l 0 with
  | .ok ts=>∃A c,e = .returned (.tuple #[.slice A ts.length c,.int .i64 0,.int .i64 0])/\Toks w' A ts/\(∀a,A=some a->w.heap.size<=a.block)/\w'.ownsRow w.heap.size 186 4 (.slice A ts.length c) ts.length (tfl ts)
  | .bad p=>e = .returned (.tuple #[.slice none 0 0,.int .i64 (p:Int),.int .i64 2])
theorem cut_bad {l:List UInt8}{w w':World}{p:Nat}(hb:Below w.heap.size w w')(h:cutR l 0 = .bad p):CutPost l w (.returned (.tuple #[.slice none 0 0,.int .i64 (p:Int),.int .i64 2])) w':=by
 refine⟨hb,?_⟩;rw[h]
theorem cut_ok {l:List UInt8}{w w':World}{ts:List Tok}{v:Value}(hb:Below w.heap.size w w')(h:cutR l 0 = .ok ts)(ho:w'.ownsRow w.heap.size 186 4 v ts.length (tfl ts)):CutPost l w (.returned (.tuple #[v,.int .i64 0,.int .i64 0])) w':=by
 obtain⟨A,c,rfl,hT,hA⟩:=toks_own ho
 refine⟨hb,?_⟩;rw[h];exact⟨A,c,rfl,hT,hA,ho⟩
def PeQ (q:Nat)(w:World)(e:Ending)(w':World):Prop:=e = .returned (.int .i64 (q:Int))/\Below w.heap.size w w'
theorem ext_sub (s:ByteArray)(p q:Nat):(s.extract p q).data.toList=sub s.data.toList p q:=sub_list s p q
def CutInv (l:List UInt8)(p:Nat)(acc:List Tok):Prop:=cutR l 0=(cutR l p).pre acc/\acc.length<=p
theorem inv_blank {l:List UInt8}{p:Nat}{acc:List Tok}(h:CutInv l p acc)(hp:p<l.length)(hb:(spB (l.getD p 0) || cmB (l.getD p 0))=true):CutInv l (peF l p) acc:=by
 obtain⟨h1,h2⟩:=h
 have:=peF_bounds hp
 refine⟨?_,by omega⟩
 rw[h1,cutR_step hp,if_pos hb]
theorem inv_bad {l:List UInt8}{p:Nat}{acc:List Tok}(h:CutInv l p acc)(hp:p<l.length)(hb:(spB (l.getD p 0) || cmB (l.getD p 0))=false)(ht:tokK (sub l p (peF l p))=0):cutR l 0 = .bad p:=by
 rw[h.1,cutR_step hp,hb,ht];rfl
theorem inv_tok {l:List UInt8}{p:Nat}{acc:List Tok}(h:CutInv l p acc)(hp:p<l.length)(hb:(spB (l.getD p 0) || cmB (l.getD p 0))=false)(ht:tokK (sub l p (peF l p))≠0):CutInv l (peF l p) (acc++[pTok l p (peF l p)]):=by
 have hB:=peF_bounds hp
 refine⟨?_,by have:=h.2;simp;omega⟩
 rw[h.1,cutR_step hp,hb,if_neg (by simp),if_neg ht,Res.pre_pre]
theorem inv_end {l:List UInt8}{p:Nat}{acc:List Tok}(h:CutInv l p acc)(hp:¬p<l.length):cutR l 0 = .ok (acc++[endT l.length]):=by
 rw[h.1,cutR_end hp];rfl
set_option maxRecDepth 100000 in
set_option maxHeartbeats 4000000 in
theorem cut_any (s:ByteArray)(w:World)(hE:Errs w)(hs:s.size<=20000):Calls Tryz.prog 124 #[.string s] w (CutPost s.data.toList w):=by
 obtain⟨i0,hi,hz0,hz1,hz2⟩:=info_parts info34
 have HE:=hid hE
 have HL:=hid (show s.data.toList.length=s.size by simp)
 clear hE
 have hsz:¬(20000:Int)<(s.size:Int):=by omega
 go_enter Tryz.func124,Tryz.ntmps124
 go_wp2_with fail
 go_loopw [5,6] (λv i wr=>∃(p:Nat) (acc:List Tok),p<=s.size/\i = .int .i64 (p:Int)/\wr.ownsRow w.heap.size 186 4 v acc.length (tfl acc)/\Below w.heap.size w wr/\CutInv s.data.toList p acc) (λ_ i _=>s.size-(intOf i).toNat)
 case atStart=>exact⟨0,[],Nat.zero_le _,rfl,World.ownsRow_nil _ _ _ _,Below.refl _ _,(Res.pre_nil _).symm,by simp⟩
 case round=>
  obtain⟨p,acc,hp,rfl,hown,hb,hI⟩:=hrel
  have hEr:=HE.out.below hb
  by_cases hlt:p<s.size
  ·have hlz:(p:Int)<(s.size:Int):=by omega
   have HG:=hid (getD_get s p hlt)
   have hpl:p<s.data.toList.length:=by rw[HL.out];exact hlt
   obtain⟨q,hq⟩:∃q,q=peF s.data.toList p:=⟨_,rfl⟩
   have hq1:p+1<=q:=by rw[hq];exact(peF_bounds hpl).1
   have hq2:q<=s.size:=by rw[hq,<- HL.out];exact(peF_bounds hpl).2
   have hP:∀w',Calls Tryz.prog 168 #[.string s,.int .i64 (p:Int)] w' (PeQ q w'):=λw'=>by rw[hq];exact piece_any s p w' hlt (by omega)
   have HP:=hid hP
   have HQ:=hid hq
   clear hP hq hpl
   cases h1:spB s[p]
   ·cases h2:cmB s[p]
    ·obtain⟨x,hx⟩:∃x,x=s.extract p q:=⟨_,rfl⟩
     have hsl:∀w',(Instr.slice 9 (.string s) (some (.int .i64 (p:Int))) (some (.int .i64 (q:Int))) none).run Tryz.prog w' = .ok (.string x) w':=by
      rw[hx];exact slice_lay s p q (q:Int) rfl (by omega) hq2
     have HX:=hid (show x.data.toList=sub s.data.toList p q by rw[hx];exact ext_sub s p q)
     have hxs:x.size<=281474976710656:=by
      have:x.data.toList.length<=s.size:=by rw[HX.out];unfold sub;simp;omega
      simp at this;omega
     clear hx
     go_wp2_with (first|(go_at_call 168;refine(HP.out _).mono ?_;rintro e w1 ⟨rfl,hb1⟩) |(go_at_call 169;refine(space_any _ _).mono ?_;rintro e w' ⟨rfl,rfl⟩) |(go_at_call 170;refine(comment_any _ _).mono ?_;rintro e w' ⟨rfl,rfl⟩) |(go_at_call 171;refine(tokenOf_any x p _ (hEr.below hb1) hxs).mono ?_))
     rintro e w2 ⟨ht,hb2⟩
     rcases ht with⟨hk,rfl⟩ |⟨hk,rfl⟩
     ·have HK:=hid hk
      clear hk
      go_wp2
      refine bodyPost_ret (v :=.tuple #[.slice none 0 0,.int .i64 (p:Int),.int .i64 2]) (by simp[results,Tryz.results124,go_sem]) rfl (cut_bad ((bt (bt hb hb1) hb2).alloc (by have:=(bt (bt hb hb1) hb2).size;omega) _) (inv_bad hI (by rw[HL.out];exact hlt) (by rw[HG.out,h1,h2];rfl) ?_))
      rw[<- HQ.out,<- HX.out];exact HK.out
     ·have HK:=hid hk
      clear hk
      have hown2:=own_below (own_below hown hb1) hb2
      have hbb:=bt (bt hb hb1) hb2
      have hal:acc.length<=20000:=by have:=hI.2;omega
      have HT:=hid (show tcv (pTok s.data.toList p q)=[.int .i64 (tokK x.data.toList:Int),.int .i64 (tokN x.data.toList),.int .i64 (p:Int),.string x]by unfold tcv pTok;rw[<- HX.out,bs_of])
      have hI2:CutInv s.data.toList q (acc++[pTok s.data.toList p q]):=by
       rw[HQ.out]
       exact inv_tok hI (by rw[HL.out];exact hlt) (by rw[HG.out,h1,h2];rfl) (by rw[<- HQ.out,<- HX.out];exact HK.out)
      clear HP HX hsl hb1 hb2 hown hb hI hEr
      generalize tokK x.data.toList=kk at *
      generalize tokN x.data.toList=nn at *
      go_wp2_with (first
       |(at_builtin;refine wpList_append_own _ rfl _ _ 147 rfl w.heap.size 186 i0 (.agg #[.int .i64 0,.int .i64 0,.int .i64 0,.string ⟨#[]⟩]) 4 40 Tryz.underlying147 hi hz0 hz1 hz2 rfl (by decide) _ _ _ rfl ((hown2.alloc _).alloc _) ⟨w2.heap.size+1,0,none⟩ 1 1 [.int .i64 (kk:Int),.int .i64 nn,.int .i64 (p:Int),.string x] rfl rfl ?c1 ?c2 ?c3 ?c4 ?c5 ?_))
      case c1=>
       intro j v hj
       match j,hj with
       |0,hj=>simp at hj;subst hj;simp[Addr.add]
       |1,hj=>simp at hj;subst hj;simp[Addr.add]
       |2,hj=>simp at hj;subst hj;simp[Addr.add]
       |3,hj=>simp at hj;subst hj;simp[Addr.add]
      case c2=>intro v hv;simp at hv;rcases hv with rfl |rfl |rfl |rfl<;>rfl
      case c3=>unfold maxLen;omega
      case c4=>omega
      case c5=>have:=hbb.size;simp;omega
      intro v' w4 hown4 hgrow4 _
      have hb4:Below w.heap.size w w4:=((hbb.alloc hbb.size _).alloc (by have:=hbb.size;simp;omega) _).grown hgrow4 (by have:=hbb.size;simp;omega) (λq hq=>(hown2.lt q hq).1)
      have hown5:w4.ownsRow w.heap.size 186 4 v' (acc++[pTok s.data.toList p q]).length (tfl (acc++[pTok s.data.toList p q])):=by
       rw[tfl_app,List.length_append,show tfl [pTok s.data.toList p q]=tcv (pTok s.data.toList p q)from rfl,HT.out];exact hown4
      clear hown4 hgrow4 hown2 hbb HT
      go_wp2
      go_roundw
      case rel=>exact⟨q,_,hq2,rfl,hown5,hb4,hI2⟩
      case measure=>simp[intOf];omega
    ·go_wp2_with (first|(go_at_call 168;refine(HP.out _).mono ?_;rintro e w1 ⟨rfl,hb1⟩) |(go_at_call 169;refine(space_any _ _).mono ?_;rintro e w' ⟨rfl,rfl⟩) |(go_at_call 170;refine(comment_any _ _).mono ?_;rintro e w' ⟨rfl,rfl⟩))
     go_roundw
     case rel=>exact⟨q,acc,hq2,rfl,own_below hown hb1,bt hb hb1,by rw[HQ.out];exact inv_blank hI (by rw[HL.out];exact hlt) (by rw[HG.out,h2];simp)⟩
     case measure=>simp[intOf];omega
   ·go_wp2_with (first|(go_at_call 168;refine(HP.out _).mono ?_;rintro e w1 ⟨rfl,hb1⟩) |(go_at_call 169;refine(space_any _ _).mono ?_;rintro e w' ⟨rfl,rfl⟩) |(go_at_call 170;refine(comment_any _ _).mono ?_;rintro e w' ⟨rfl,rfl⟩))
    go_roundw
    case rel=>exact⟨q,acc,hq2,rfl,own_below hown hb1,bt hb hb1,by rw[HQ.out];exact inv_blank hI (by rw[HL.out];exact hlt) (by rw[HG.out,h1];simp)⟩
    case measure=>simp[intOf];omega
  ·have hlz:¬(p:Int)<(s.size:Int):=by omega
   have hR:=inv_end hI (by rw[HL.out];exact hlt)
   have hal:acc.length<=20000:=by have:=hI.2;omega
   have HT:=hid (show tcv (endT s.data.toList.length)=[.int .i64 5,.int .i64 0,.int .i64 (s.size:Int),.string ⟨#[]⟩]by unfold tcv endT;rw[HL.out];rfl)
   have HR:=hid hR
   clear hR hI hEr
   go_wp2_with (first
    |(at_builtin;refine wpList_append_own _ rfl _ _ 147 rfl w.heap.size 186 i0 (.agg #[.int .i64 0,.int .i64 0,.int .i64 0,.string ⟨#[]⟩]) 4 40 Tryz.underlying147 hi hz0 hz1 hz2 rfl (by decide) _ _ _ rfl (hown.alloc _) ⟨wr.heap.size,0,none⟩ 1 1 [.int .i64 5,.int .i64 0,.int .i64 (s.size:Int),.string ⟨#[]⟩] rfl rfl ?d1 ?d2 ?d3 ?d4 ?d5 ?_))
   case d2=>exact⟨rfl,rfl,rfl,rfl⟩
   case d3=>unfold maxLen;omega
   case d4=>omega
   case d5=>have:=hb.size;simp;omega
   intro v' w4 hown4 hgrow4 _
   have hb4:Below w.heap.size w w4:=(hb.alloc hb.size _).grown hgrow4 (by have:=hb.size;simp;omega) (λq hq=>(hown.lt q hq).1)
   have hown5:w4.ownsRow w.heap.size 186 4 v' (acc++[endT s.data.toList.length]).length (tfl (acc++[endT s.data.toList.length])):=by
    rw[tfl_app,List.length_append,show tfl [endT s.data.toList.length]=tcv (endT s.data.toList.length)from rfl,HT.out];exact hown4
   clear hown4 hgrow4 hown hb HT
   go_wp2
   exact bodyPost_ret (v :=.tuple #[v',.int .i64 0,.int .i64 0]) (by simp[results,Tryz.results124,go_sem]) rfl (cut_ok hb4 HR.out hown5)
end
end Go.Proofs.YtedkgofehbecmaaGreatDoor.Tk
namespace Go.Proofs.YtedkgofehbecmaaGreatDoor
open Go.Lib (hid)
open Go Go.RowKit
open Tr (Bx heap1 bt gen_world ret_int ret_bool cell_same)
def cvT (t:Tk.Tok):Tok:=⟨t.k,t.n,t.p,t.s⟩
theorem tokK_le (l:List UInt8):Tk.tokK l<=4:=by
 unfold Tk.tokK
 split
 ·exact Nat.le_refl _
 split
 ·decide
 split
 ·decide
 split
 ·decide
 ·decide
theorem cutN_rows:∀(f:Nat) (l:List UInt8) (p:Nat) (ts:List Tk.Tok),Tk.cutN f l p = .ok ts->∃ms:List Tk.Tok,ts=ms++[Tk.endT l.length]/\ms.length<=f/\∀t ∈ ms,t.k=Tk.tokK t.s/\t.k≠0/\t.s≠[]
 |0,l,p,ts,h=>by
  simp only[Tk.cutN]at h
  injection h with h
  exact⟨[],by rw[<- h];rfl,Nat.le_refl _,λt ht=>by cases ht⟩
 |f+1,l,p,ts,h=>by
  simp only[Tk.cutN]at h
  split at h
  case isFalse=>
   injection h with h
   exact⟨[],by rw[<- h];rfl,Nat.zero_le _,λt ht=>by cases ht⟩
  case isTrue hp=>
   split at h
   ·obtain⟨ms,a,b,c⟩:=cutN_rows f l _ ts h
    exact⟨ms,a,Nat.le_succ_of_le b,c⟩
   split at h
   ·cases h
   ·rename_i h0
    cases h1:Tk.cutN f l (Tk.peF l p) with
    |bad q=>rw[h1]at h;cases h
    |ok us=>
     rw[h1]at h
     obtain⟨ms,a,b,c⟩:=cutN_rows f l _ us h1
     simp only[Tk.Res.pre]at h
     injection h with h
     refine⟨Tk.pTok l p (Tk.peF l p) :: ms,by rw[<- h,a];rfl,by rw[List.length_cons];omega,λt ht =>?_⟩
     rcases List.mem_cons.1 ht with rfl |ht
     ·refine⟨rfl,h0,λe =>?_⟩
      have e:Tk.sub l p (Tk.peF l p)=[]:=e
      have e2:=congrArg List.length e
      have hb:=Tk.peF_bounds hp
      simp[Tk.sub]at e2
      omega
     ·exact c t ht
theorem cut_rows {l:List UInt8}{ts:List Tk.Tok}(h:Tk.cutR l 0 = .ok ts):∃ms:List Tk.Tok,ts=ms++[Tk.endT l.length]/\ms.length<=l.length/\∀t ∈ ms,t.k=Tk.tokK t.s/\t.k≠0/\t.s≠[]:=by
 obtain⟨ms,a,b,c⟩:=cutN_rows (l.length-0) l 0 ts h
 exact⟨ms,a,by omega,c⟩
theorem map_last {ms:List Tk.Tok}{n:Nat}:(ms++[Tk.endT n]).map cvT=ms.map cvT++[⟨5,0,n,[]⟩]:=by rw[List.map_append];rfl
theorem ts_ok {l:List UInt8}{ts:List Tk.Tok}(h:Tk.cutR l 0 = .ok ts):TsOk (ts.map cvT):=by
 obtain⟨ms,rfl,hl,hm⟩:=cut_rows h
 rw[map_last]
 have hlen:(ms.map cvT++[(⟨5,0,l.length,[]⟩:Tok)]).length=ms.length+1:=by rw[List.length_append,List.length_map];rfl
 refine⟨by rw[hlen];omega,λi hi h1 =>?_,λi hi h1 =>?_,λhi =>?_,λhi =>?_⟩
 ·rw[hlen]at h1
  rw[List.getElem_append_left (by rw[List.length_map];omega),List.getElem_map]
  exact(hm _ (List.getElem_mem _)).2.2
 ·rw[hlen]at h1
  rw[List.getElem_append_left (by rw[List.length_map];omega),List.getElem_map]
  show ms[i].k≠5
  have a:=hm _ (List.getElem_mem (show i<ms.length by omega))
  have b:=tokK_le ms[i].s
  rw[a.1];omega
 ·rw[List.getElem_append_right (by rw[hlen,List.length_map];omega)]
  simp
 ·rw[List.getElem_append_right (by rw[hlen,List.length_map];omega)]
  simp
theorem ts_len {l:List UInt8}{ts:List Tk.Tok}(h:Tk.cutR l 0 = .ok ts):ts.length<=l.length+1:=by
 obtain⟨ms,rfl,hl,_⟩:=cut_rows h
 rw[List.length_append];show ms.length+1<=_;omega
theorem toks_cv {w:World}{A:Option Addr}{ts:List Tk.Tok}(h:Tk.Toks w A ts):Toks w A (ts.map cvT):=λh0=>by
 obtain⟨b,off,e,hl,hc⟩:=h (by rwa [List.length_map]at h0)
 refine⟨b,off,e,hl,λj hj i hi =>?_⟩
 rw[hc j (by rwa [List.length_map]at hj) i hi,List.getElem_map]
 rfl
def cvN (x:Nd):Tr.Nd:=⟨x.kd,x.n,x.pl,bs x.tx,x.ks⟩
theorem ints_of {X:Nat->Prop}{w:World}{K:Option Addr}{ks:List Int}(h:Kd w X K ks):Tr.Ints w K ks:=λh0=>by
 obtain⟨b,cs,e,hb,hc,_⟩:=h h0
 refine⟨b,0,e,(Array.getElem?_eq_some_iff.1 hb).1,λj hj =>?_⟩
 rw[Nat.zero_add,cell_of_row w b j cs 3 (0,0) hb]
 exact hc j hj
theorem nds_of {X:Nat->Prop}{w:World}{base:Nat}{V:Value}{nd:List Nd}(h:Nodes w X base V nd):∃A c,V = .slice A nd.length c/\Tr.Nds w A (nd.map cvN)/\∀a,A=some a->base<=a.block:=by
 obtain⟨xs,hown,hcs⟩:=h
 have hcell:=λ(b:Nat) (q:V.ownBlock=some b)=>hown.cells (g:=b) q
 rcases hown.2 with⟨e1,e2⟩ |⟨b,cap,cur,e1,e2,e3,_⟩
 ·refine⟨none,0,by rw[e1,e2],λh0 =>?_,λa e=>(by cases e)⟩
  rw[List.length_map]at h0;omega
 ·refine⟨_,cap,e1,λh0=>⟨b,0,rfl,(Array.getElem?_eq_some_iff.1 e3).1,λj hj =>?_⟩,λa e=>by injection e with e;subst e;exact e2⟩
  rw[List.length_map]at hj
  obtain⟨K,c,e,hk,_⟩:=hcs j hj
  have hc:=hcell b (by rw[e1];rfl)
  have get:∀i u,i<5->([.int .i64 nd[j].kd,.int .i64 nd[j].n,.int .i64 nd[j].pl,.string (bs nd[j].tx),.slice K nd[j].ks.length c]:List Value)[i]?=some u->w.cell? ⟨b,0+j*5+i,none⟩=some u:=λi u hi hu=>by
   rw[<- e,List.getElem?_take,if_pos hi,List.getElem?_drop]at hu
   have:=hc _ _ hu
   rw[Nat.zero_add]
   rwa [show(⟨b,0,none⟩:Addr).add (j*5+i)=⟨b,j*5+i,none⟩by simp[Addr.add];omega]at this
  simp only[List.getElem_map]
  refine⟨K,c,?_,get 1 _ (by decide) rfl,get 2 _ (by decide) rfl,get 3 _ (by decide) rfl,get 4 _ (by decide) rfl,ints_of hk⟩
  have:=get 0 _ (by decide) rfl
  rwa [Nat.add_zero]at this
set_option maxRecDepth 100000 in
set_option maxHeartbeats 1500000 in
theorem tooLarge_any {w:World}(A:Option Addr)(c n:Nat)(l:List Tr.Nd)(r:Int)(hN:Tr.Nds w A l)(hn:n=l.length)(hk:∀x ∈ l,x.ks.length<=l.length):Calls Tryz.prog 126 #[.agg #[.slice A n c,.int .i64 r]] w (VPost (.int .i64 (if 4000<n then 8 else if 40<Tr.dpt l r then 6 else 0)) w):=by
 have hb:Below w.heap.size w (w.alloc (.cells #[.slice A n c,.int .i64 r] 24)):=heap1 _ _
 by_cases h4:4000<n
 ·rw[if_pos h4]
  have d:((4000:Int)<(n:Int)):=by omega
  clear hN hn hk h4
  go_enter Tryz.func126,Tryz.ntmps126
  go_wp2
  go_ret
  exact⟨rfl,hb⟩
 ·rw[if_neg h4]
  have d:¬((4000:Int)<(n:Int)):=by omega
  have HD:=hid (Tr.depth_any A c n l r _ (hN.below hb) hn (λx hx=>by have:=hk x hx;omega))
  generalize Tr.dpt l r=dd at *
  by_cases h5:40<dd
  ·rw[if_pos h5]
   have d5:((40:Int)<(dd:Int)):=by omega
   clear hN hn hk h4 h5
   go_enter Tryz.func126,Tryz.ntmps126
   go_wp2_with (go_at_call 34;refine HD.out.mono ?_;rintro e w1 ⟨rfl,hb1⟩)
   go_ret
   exact⟨rfl,bt hb hb1⟩
  ·rw[if_neg h5]
   have d5:¬((40:Int)<(dd:Int)):=by omega
   clear hN hn hk h4 h5
   go_enter Tryz.func126,Tryz.ntmps126
   go_wp2_with (go_at_call 34;refine HD.out.mono ?_;rintro e w1 ⟨rfl,hb1⟩)
   go_ret
   exact⟨rfl,bt hb hb1⟩
end Go.Proofs.YtedkgofehbecmaaGreatDoor
