/- PROVED here: parts Pt Pu of the claim. No condition but those in each theorem's own head. -/
import Derived.Test.YteecfjhjllajlaaGreatDoorH12
import Derived.Deep.LoopGhost
import Derived.Deep.Light
import Derived.Laws.AppendOwnNone
namespace Go.Proofs.YteecfjhjllajlaaGreatDoor
section
set_option maxHeartbeats 1500000
set_option maxRecDepth 100000
open Go Go.RowKit
open Tr (Bx heap1 bt gen_world ret_int ret_bool cell_same)
theorem add_y {X:Nat→Prop}{w:World}{base g c:Nat}{A:Option Addr}{ts:List Tok}{V:Value}{s:St}(h:Pz X w base g A c ts V s)(kd nn pl:Int)(tx:List UInt8)(K0 KK:Option Addr)(n0 c0 kn kc:Nat)(ks:List Int)(hK:Kd w X KK ks)(hkn:kn=ks.length∧kn≤kc)(hsl:s.nd.length+1≤s.nx) :
  Calls Tryz.prog 106 #[.pointer (some ⟨g,0,none⟩),.agg #[.int .i64 kd,.int .i64 nn,.int .i64 pl,.string (bs tx),.slice K0 n0 c0],.slice KK kn kc] w (IPost X base g A c ts V w (addM kd nn pl tx ks s)):=by
 have hx:=h.px.nx
 have hl:=h.px.len
 refine(add_any h.px h.nd kd nn pl tx K0 KK n0 c0 kn kc ks hK hkn h.hb h.gb h.hA (by omega)).mono ?_
 rintro e w' ⟨V',rfl,hX,hN,hF,hO⟩
 exact .inr ⟨_,_,V',rfl,rfl,⟨hX,hN,Nat.le_trans h.hb hF.size,h.gb,h.hA,by simp only[List.length_append,List.length_cons,List.length_nil];exact hsl,h.h40,h.ok,fun b hb=>Nat.lt_of_lt_of_le (h.hX b hb) hF.size⟩,⟨hF,hO⟩⟩
theorem add_y1 {X:Nat→Prop}{w:World}{base g c:Nat}{A:Option Addr}{ts:List Tok}{V:Value}{s:St}(h:Pz X w base g A c ts V s)(kd nn pl:Int)(tx:List UInt8)(K0:Option Addr)(n0 c0:Nat)(x1:Int)(hsl:s.nd.length+1≤s.nx) :
  Calls Tryz.prog 106 #[.pointer (some ⟨g,0,none⟩),.agg #[.int .i64 kd,.int .i64 nn,.int .i64 pl,.string (bs tx),.slice K0 n0 c0],.slice (some ⟨w.heap.size,0,none⟩) 1 1] (w.alloc (.cells #[.int .i64 x1] 3)) (IPost X base g A c ts V w (addM kd nn pl tx [x1] s)):=
 (add_y (h.below (heap1 w (.cells #[.int .i64 x1] 3))) kd nn pl tx K0 (some ⟨w.heap.size,0,none⟩) n0 c0 1 1 [x1] (kd_new h.hX [x1]) ⟨rfl,Nat.le_refl _⟩ hsl).mono fun _ _ q=>q.after (Fo.below (heap1 _ _))
theorem add_y2 {X:Nat→Prop}{w:World}{base g c:Nat}{A:Option Addr}{ts:List Tok}{V:Value}{s:St}(h:Pz X w base g A c ts V s)(kd nn pl:Int)(tx:List UInt8)(K0:Option Addr)(n0 c0:Nat)(x1 x2:Int)(hsl:s.nd.length+1≤s.nx) :
  Calls Tryz.prog 106 #[.pointer (some ⟨g,0,none⟩),.agg #[.int .i64 kd,.int .i64 nn,.int .i64 pl,.string (bs tx),.slice K0 n0 c0],.slice (some ⟨w.heap.size,0,none⟩) 2 2] (w.alloc (.cells #[.int .i64 x1,.int .i64 x2] 3)) (IPost X base g A c ts V w (addM kd nn pl tx [x1,x2] s)):=
 (add_y (h.below (heap1 w (.cells #[.int .i64 x1,.int .i64 x2] 3))) kd nn pl tx K0 (some ⟨w.heap.size,0,none⟩) n0 c0 2 2 [x1,x2] (kd_new h.hX [x1,x2]) ⟨rfl,Nat.le_refl _⟩ hsl).mono fun _ _ q=>q.after (Fo.below (heap1 _ _))
theorem bin_top {X:Nat→Prop}{w:World}{base g c:Nat}{A:Option Addr}{ts:List Tok}{V:Value}{s:St}{f:Nat}(hI:Rz ts (run ts f))(h:Pz X w base g A c ts V s)(hne:binM (run ts f) 6 s ≠ .out):Calls Tryz.prog 215 #[.pointer (some ⟨g,0,none⟩),.int .i64 6] w (IPost X base g A c ts V w (binM (run ts f) 6 s)):=by
 have e:binM (run ts f) 6 s=run ts f .una s:=by unfold binM;rfl
 rw[e]at hne ⊢
 have HI:=Lib.hid ((hI.z X w base g A c V s h).1 hne)
 generalize run ts f .una s=R at *
 clear h hI hne e
 go_enter Tryz.func215,Tryz.ntmps215
 go_wp2_with (go_at_call 253;refine(HI.out).mono ?_;rintro e w3 (⟨p,er,hr,rfl,hF⟩ |⟨x,s3,V3,hr,rfl,hz3,hF3⟩)<;>replace hr:=Lib.hid hr)
 ·exact⟨rfl,.inl ⟨p,er,hr.out,rfl,hF⟩⟩
 ·go_ret
  exact .inr ⟨x,s3,V3,hr.out,rfl,hz3,hF3⟩
theorem bin_low {X:Nat→Prop}{w:World}{base g c:Nat}{A:Option Addr}{ts:List Tok}{V:Value}{s:St}{f:Nat}(hI:∀f',f'≤f→Rz ts (run ts f'))(h:Pz X w base g A c ts V s)(r:Nat)(h1:1≤r)(h5:r≤5)(hne:binM (run ts f) r s ≠ .out):Calls Tryz.prog 215 #[.pointer (some ⟨g,0,none⟩),.int .i64 (r:Int)] w (IPost X base g A c ts V w (binM (run ts f) r s)):=by
 obtain⟨R,HR⟩:∃R,R=binM (run ts f) r s:=⟨_,rfl⟩
 rw[← HR]at hne ⊢
 unfold binM at HR
 rw[if_neg (by omega)]at HR
 have d5:¬((5:Int)<(r:Int)):=by omega
 have HB:=Lib.hid (((hI f (Nat.le_refl _)).z X w base g A c V s h).2.1 (r+1) (by omega) (by omega) (Rs.step_in HR hne))
 have ec:((r+1:Nat):Int)=(r:Int)+1:=by omega
 rw[ec]at HB
 have HK:=Lib.hid (And.intro HR (And.intro hne (And.intro hI (And.intro h.px.nx (And.intro h.ok (And.intro h1 h5))))))
 clear HR hne hI h h1 ec
 go_enter Tryz.func215,Tryz.ntmps215
 go_wp2_with (go_at_call 215;refine HB.out.mono ?_)
 rintro e w1 (⟨p,er,hr,rfl,hF⟩ |⟨x,s1,V1,hr1,rfl,hz1,hF1⟩)<;>first|replace hr1:=Lib.hid hr1 |replace hr:=Lib.hid hr
 ·go_wp2
  exact⟨rfl,.inl ⟨p,er,Rs.step_no HK.out.1 hr.out,rfl,hF⟩⟩
 have HL:=Lib.hid (And.intro (Rs.step HK.out.1 hr1.out) (And.intro hz1 hF1))
 clear hz1 hF1 hr1
 go_wp2
 go_loopg [5] f (fun gk a5 wr=>∃(l:Int) (sl:St) (Vl:Value),a5 = .int .i64 l∧R=run ts gk (.loop r [l]) sl∧gk≤f∧Pz X wr base g A c ts Vl sl∧Fo w wr g V Vl)
 case atStart=>exact⟨x,s1,V1,rfl,HL.out.1,Nat.le_refl _,HL.out.2.1,HL.out.2.2⟩
 case round=>
  clear HL
  obtain⟨l,sl,Vl,rfl,hR,hg,hz,hF⟩:=hrel
  cases gk with
  |zero=>exact absurd hR HK.out.2.1
  |succ k=>
   replace hR:R=loopM ts (run ts k) r [l] sl:=hR
   unfold loopM at hR
   dsimp only at hR
   have hf:=field36_3 (tkn ts sl)
   have HC:=Lib.hid (token_z hz)
   have HO:=Lib.hid (fun w'=>rowOf_any (w:=w') (tkn ts sl).s)
   have HG:=Lib.hid (And.intro hg (And.intro hz hF))
   by_cases q:rowOf (tkn ts sl).s=r
   ·rw[if_pos q]at hR
    have dq:((rowOf (tkn ts sl).s:Int)==(r:Int))=true:=by rw[q];simp
    have HT:=Lib.hid (fun w' (p:Below wr.heap.size wr w')=>take_z (hz.below p) (.inr (rowOf_ne (by have:=HK.out.2.2.2.2.2.1;omega))))
    have HP:=Lib.hid (fun w' (p:Pz X w' base g A c ts Vl (takeS sl))=>((HK.out.2.2.1 k (by omega)).z X w' base g A c Vl (takeS sl) p).2.1 (r+1) (by omega) (by omega) (Rs.step_in hR HK.out.2.1))
    have ec:((r+1:Nat):Int)=(r:Int)+1:=by omega
    rw[ec]at HP
    clear q ec hg hz hF
    generalize hv:tokV (tkn ts sl)=v at hf HC
    generalize tkn ts sl=t at *
    unfold tokV at HT hv
    have HR:=Lib.hid hR
    clear hR hv
    generalize (rowOf t.s:Int)=ro at *
    go_wp2_with (first|(go_at_call 167;refine HC.out.mono ?_;rintro e w2 ⟨rfl,hb2⟩) |(go_at_call 254;refine(HO.out _).mono ?_;rintro e w3 ⟨rfl,hb3⟩) |(go_at_call 164;refine(HT.out _ (bt hb2 hb3)).mono ?_;rintro e w4 ⟨rfl,hz4,hF4⟩) |(go_at_call 215;refine(HP.out _ (hz4.below (heap1 _ _))).mono ?_))
    rintro e w5 (⟨p,er,hr,rfl,hF⟩ |⟨x2,s2,V2,hr2,rfl,hz5,hF5⟩)<;>first|replace hr2:=Lib.hid hr2 |replace hr:=Lib.hid hr
    ·go_wp2
     exact⟨rfl,.inl (np_after (((HG.out.2.2.trans (Fo.below (bt hb2 hb3))).trans hF4).trans (Fo.below (heap1 _ _))) (Rs.step_no HR.out hr.out) hF)⟩
    have hT:=(hz4.box (l:=[.int .i64 (t.k:Int),.int .i64 t.n,.int .i64 (t.p:Int),.string (bs t.s)]) hF5).1
    have t2:=(hT.cell 2).trans rfl
    have t3:=(hT.cell 3).trans rfl
    have hsl:s2.nd.length+1≤s2.nx:=by
     have a:=((run_nk ts k _).2.1 (r+1) _ _ hr2.out).1.1
     have b:=HG.out.2.1.hn
     have c1:(takeS sl).nd=sl.nd:=rfl
     have c2:(takeS sl).nx=sl.nx+1:=rfl
     rw[c1,c2]at a
     omega
    have HA:=Lib.hid (add_y2 hz5 27 0 (t.p:Int) t.s none 0 0 l x2 hsl)
    have HF:=Lib.hid ((((HG.out.2.2.trans (Fo.below (bt hb2 hb3))).trans hF4).trans (Fo.below (heap1 _ _))).trans hF5)
    have HR2:=Lib.hid (Rs.step HR.out hr2.out)
    clear hT hz5 hF5 hsl hr2
    go_wp2_with (go_at_call 106;refine HA.out.mono ?_;rintro e w6 (⟨p,er,hr,rfl,hF⟩ |⟨x3,s3,V3,hr3,rfl,hz6,hF6⟩)<;>first|replace hr3:=Lib.hid hr3 |replace hr:=Lib.hid hr)
    ·cases hr.out
    ·go_roundg k
     case measure=>go_light;omega
     case rel=>
      go_light
      exact⟨x3,s3,V3,rfl,Rs.step HR2.out hr3.out,by have:=HG.out.1;omega,hz6,HF.out.trans hF6⟩
   ·rw[if_neg q]at hR
    have dq:((rowOf (tkn ts sl).s:Int)==(r:Int))=false:=by rw[beq_eq_false_iff_ne];omega
    clear q hg hz hF
    generalize tokV (tkn ts sl)=v at hf HC
    generalize tkn ts sl=t at *
    have HR:=Lib.hid hR
    clear hR
    generalize (rowOf t.s:Int)=ro at *
    go_wp2_with (first|(go_at_call 167;refine HC.out.mono ?_;rintro e w2 ⟨rfl,hb2⟩) |(go_at_call 254;refine(HO.out _).mono ?_;rintro e w3 ⟨rfl,hb3⟩))
    go_ret
    exact .inr ⟨l,sl,Vl,HR.out,rfl,HG.out.2.1.below (bt hb2 hb3),HG.out.2.2.trans (Fo.below (bt hb2 hb3))⟩
theorem bin_z {X:Nat→Prop}{w:World}{base g c:Nat}{A:Option Addr}{ts:List Tok}{V:Value}{s:St}{f:Nat}(hI:∀f',f'≤f→Rz ts (run ts f'))(h:Pz X w base g A c ts V s)(r:Nat)(h1:1≤r)(h6:r≤6)(hne:binM (run ts f) r s ≠ .out):Calls Tryz.prog 215 #[.pointer (some ⟨g,0,none⟩),.int .i64 (r:Int)] w (IPost X base g A c ts V w (binM (run ts f) r s)):=by
 by_cases q:r=6
 ·subst q;exact bin_top (hI f (Nat.le_refl _)) h hne
 ·exact bin_low hI h r h1 (by omega) hne
end
section
open Go Go.RowKit
open Tr (Bx heap1 bt gen_world ret_int ret_bool cell_same)
section
variable {X:Nat→Prop} {w0 w w':World} {base g c:Nat} {A:Option Addr} {ts:List Tok} {V0 V V':Value} {s s':St} {v:Value} {l:List Int}
theorem Kd.weak {X':Nat→Prop}{K:Option Addr}{ks:List Int}(h:Kd w X K ks)(k:∀b,X' b→X b):Kd w X' K ks:=fun h0=>by
 obtain⟨b,cs,e,hb,hc,hx⟩:=h h0
 exact⟨b,cs,e,hb,hc,fun q=>hx (k b q)⟩
theorem Nodes.weak {X':Nat→Prop}{nd:List Nd}(h:Nodes w X base V nd)(k:∀b,X' b→X b):Nodes w X' base V nd:=by
 obtain⟨xs,h1,h2⟩:=h
 refine⟨xs,h1,fun j hj =>?_⟩
 obtain⟨K,c,e,hk⟩:=h2 j hj
 exact⟨K,c,e,hk.1.weak k,hk.2⟩
theorem Nodes.more {Y:Nat→Prop}{nd:List Nd}(h:Nodes w X base V nd)(hY:∀b,Y b→w.heap.size≤b):Nodes w (fun b=>X b∨Y b) base V nd:=by
 obtain⟨xs,h1,h2⟩:=h
 refine⟨xs,h1,fun j hj =>?_⟩
 obtain⟨K,c,e,hk,hkc⟩:=h2 j hj
 refine⟨K,c,e,fun h0 =>?_,hkc⟩
 obtain⟨b,cs,e,hb,hc,hx⟩:=hk h0
 refine⟨b,cs,e,hb,hc,fun q=>q.elim hx (fun y =>?_)⟩
 have:=hY b y
 have:=(Array.getElem?_eq_some_iff.1 hb).1
 omega
theorem Pz.weak {X':Nat→Prop}(h:Pz X w base g A c ts V s)(k:∀b,X' b→X b):Pz X' w base g A c ts V s:=⟨h.px,h.nd.weak k,h.hb,h.gb,h.hA,h.hn,h.h40,h.ok,fun b q=>h.hX b (k b q)⟩
structure Rw (X:Nat→Prop) (w0:World) (V0:Value) (w:World) (base g:Nat) (A:Option Addr) (c:Nat) (ts:List Tok) (V:Value) (s:St) (v:Value) (l:List Int):Prop where
 z:Pz (fun b=>X b∨v.ownBlock=some b) w base g A c ts V s
 own:w.ownsRow w0.heap.size 3 1 v l.length (l.map (Value.int .i64))
 fo:Fo w0 w g V0 V
 hX0:∀b,X b→b<w0.heap.size
 hb0:base≤w0.heap.size
theorem Rw.pz (h:Rw X w0 V0 w base g A c ts V s v l):Pz X w base g A c ts V s:=h.z.weak (fun _ q =>.inl q)
theorem Rw.nil (h:Pz X w base g A c ts V s):Rw X w V w base g A c ts V s (.slice none 0 0) []:=
 ⟨h.weak (fun _ q=>q.elim id (fun e=>absurd e (by simp[Value.ownBlock]))),World.ownsRow_nil w w.heap.size 3 1,Fo.refl _ _ _,h.hX,h.hb⟩
theorem Rw.apart (h:Rw X w0 V0 w base g A c ts V s v l){b:Nat}(hb:v.ownBlock=some b):¬PE g V b:=fun e=>by
 rcases h.own.2 with⟨e1,_⟩ |⟨b',cap,cur,e1,_,e3,_⟩
 ·rw[e1]at hb;exact absurd hb (by simp[Value.ownBlock])
 rw[e1]at hb
 obtain rfl:b'=b:=by simpa [Value.ownBlock]using hb
 rcases e with e |e
 ·subst e
  have:=e3.symm.trans h.z.px.box
  simp at this
 ·obtain⟨xs,ho,_⟩:=h.z.nd
  rcases ho.2 with⟨q1,_⟩ |⟨b2,cap2,cur2,q1,_,q3,_⟩
  ·rw[q1]at e;exact absurd e (by simp[Value.ownBlock])
  ·rw[q1]at e
   obtain rfl:b2=b':=by simpa [Value.ownBlock]using e
   have:=e3.symm.trans q3
   simp at this
theorem own_kept {E:Nat→Prop}{b0:Nat}{xs:List Value}{n:Nat}(h:w.ownsRow b0 3 1 v n xs)(k:Fr E w w')(hE:∀b,v.ownBlock=some b→¬E b):w'.ownsRow b0 3 1 v n xs:=by
 refine⟨h.1,h.2.imp id ?_⟩
 rintro⟨b,cap,cur,h1,h2,h3,h4⟩
 exact⟨b,cap,cur,h1,h2,(k.block b (Array.getElem?_eq_some_iff.1 h3).1 (hE b (by rw[h1];rfl))).trans h3,h4⟩
theorem Rw.step (h:Rw X w0 V0 w base g A c ts V s v l)(z':Pz (fun b=>X b∨v.ownBlock=some b) w' base g A c ts V' s')(f:Fo w w' g V V'):Rw X w0 V0 w' base g A c ts V' s' v l:=
 ⟨z',own_kept h.own f.fr (fun _ hb=>h.apart hb),h.fo.trans f,h.hX0,h.hb0⟩
theorem Rw.below (h:Rw X w0 V0 w base g A c ts V s v l)(hb:Below w.heap.size w w'):Rw X w0 V0 w' base g A c ts V s v l:=h.step (h.z.below hb) (Fo.below hb)
theorem Rw.kd (h:Rw X w0 V0 w base g A c ts V s v l):∃K cc,v = .slice K l.length cc∧Kd w X K l:=by
 rcases h.own.2 with⟨e1,e2⟩ |⟨b,cap,cur,e1,e2,e3,_,_,_,e4⟩
 ·exact⟨none,0,by rw[e1,e2],fun h0=>by omega⟩
 ·refine⟨_,_,e1,fun _=>⟨b,cur,rfl,e3,fun j hj =>?_,fun q=>by have:=h.hX0 b q;omega⟩⟩
  have e5:(cur.toList.take (l.length*1))[j]?=some (.int .i64 l[j]):=by rw[e4];simp[hj]
  rw[List.getElem?_take]at e5
  split at e5
  ·simpa using e5
  ·cases e5
theorem info3:(Tryz.prog.info? 3).map (fun i=>(i.zero,i.size,i.bytes))=some (some (.int .i64 0),1,8):=by kernel_rfl
theorem Rw.grown {v':Value}{ms:List Int}(h:Rw X w0 V0 w base g A c ts V s v l)(ho:w'.ownsRow w0.heap.size 3 1 v' (l++ms).length ((l++ms).map (Value.int .i64)))(hg:w.grownBy w' v.ownBlock)(hf:∀k,v'.ownBlock=some k→v.ownBlock=some k∨w.heap.size≤k):Rw X w0 V0 w' base g A c ts V s v' (l++ms):=by
 have hfr:Fr (fun b=>v.ownBlock=some b) w w':=⟨hg.os,hg.tape,hg.output,hg.size,fun b hb hE=>hg.block b hb (fun e=>hE e.symm)⟩
 have hap:∀b,v.ownBlock=some b→¬PE g V b:=fun b hb=>h.apart hb
 have hlow:∀b,v.ownBlock=some b→w0.heap.size≤b:=fun b hb=>(h.own.lt b hb).1
 have hz:=h.z
 have hbx:Bx w' g 96 [.slice A ts.length c,.int .i64 (s.nx:Int),V,.int .i64 (s.op:Int),.int .i64 (s.mo:Int)]:=Bx.fr hz.px.box hfr (fun e=>hap g e (.inl rfl))
 have htk:Toks w' A ts:=hz.px.toks.fr hfr (fun a ha e=>by have:=hz.hA a ha;have:=hlow _ e;have:=h.hb0;omega)
 obtain⟨xs,hn1,hn2⟩:=hz.nd.more (Y:=fun b=>v'.ownBlock=some b∧w.heap.size≤b) (fun b q=>q.2)
 have hnd:Nodes w' (fun b=>X b∨v'.ownBlock=some b) base V s.nd:=by
  refine⟨xs,?_,fun j hj =>?_⟩
  ·refine⟨hn1.1,hn1.2.imp id ?_⟩
   rintro⟨b,cap,cur,h1,h2,h3,h4⟩
   exact⟨b,cap,cur,h1,h2,(hfr.block b (Array.getElem?_eq_some_iff.1 h3).1 (fun e=>hap b e (.inr (by rw[h1];rfl)))).trans h3,h4⟩
  ·obtain⟨K,c,e,hk,hkc⟩:=hn2 j hj
   refine⟨K,c,e,fun h0 =>?_,hkc⟩
   obtain⟨b,cs,e,hb,hc,hx⟩:=hk h0
   refine⟨b,cs,e,(hfr.block b (Array.getElem?_eq_some_iff.1 hb).1 (fun q=>hx (.inl (.inr q)))).trans hb,hc,fun q=>hx (q.elim (fun q =>.inl (.inl q)) (fun q =>?_))⟩
   exact(hf b q).elim (fun r =>.inl (.inr r)) (fun r =>.inr ⟨q,r⟩)
 refine⟨⟨⟨hbx,htk,hz.px.len,hz.px.nx,hz.px.op,hz.px.mo,hz.px.ne⟩,hnd,Nat.le_trans hz.hb hg.size,hz.gb,hz.hA,hz.hn,hz.h40,hz.ok,fun b q=>q.elim (fun q=>Nat.lt_of_lt_of_le (hz.hX b (.inl q)) hg.size) (fun q=>(ho.lt b q).2)⟩,ho,?_,h.hX0,h.hb0⟩
 refine⟨⟨hg.os.trans h.fo.fr.os,hg.tape.trans h.fo.fr.tape,hg.output.trans h.fo.fr.output,Nat.le_trans h.fo.fr.size hg.size,fun b hb hE =>?_⟩,h.fo.own⟩
 exact(hfr.block b (Nat.lt_of_lt_of_le hb h.fo.fr.size) (fun e=>by have:=hlow b e;omega)).trans (h.fo.fr.block b hb hE)
theorem rw_append {ops:Array Oper}{rest:List Oper}{o:Oper}{a:Act}{Q:Exit→Act→World→Prop}(hgd:o.guard=none)(p x:Operand)
  (ho:o.op = .call { callee :=.builtin .append,args := #[p,x],argTypes := #[35,35] }) (h:Rw X w0 V0 w base g A c ts V s v l) (hs:a.eval p=v)
  (ad:Addr) (m cc:Nat) (ms:List Int) (hx:a.eval x = .slice (some ad) m cc) (hm:m=ms.length) (hsrc:∀j u,(ms.map (Value.int .i64))[j]?=some u→w.cell? (ad.add j)=some u) (hlen:l.length+ms.length≤1000000)
  (hk:∀v' w',Rw X w0 V0 w' base g A c ts V s v' (l++ms)→wpList Tryz.prog ops Q rest (a.put o.dst v') w'):wpList Tryz.prog ops Q (o :: rest) a w:=by
 obtain⟨i0,hi,hz0,hz1,hz2⟩:=info_parts info3
 refine wpList_plain hgd fun K hK =>?_
 refine wp_append_own2 w p x 35 ho w0.heap.size 3 i0 (.int .i64 0) 1 8 Tryz.underlying35 hi hz0 hz1 hz2 rfl (by decide) v l.length (l.map (Value.int .i64)) hs h.own ad m cc (ms.map (Value.int .i64)) hx (by rw[List.length_map,hm];omega) hsrc ?_ (by unfold maxLen;omega) (by omega) h.fo.fr.size ?_
 ·intro u hu
  obtain⟨z,_,rfl⟩:=List.mem_map.1 hu
  rfl
 ·intro v' w' h2 h3 h4
  refine hK _ _ (hk v' w' (h.grown ?_ h3 h4))
  rw[List.length_append,← hm,List.map_append]
  exact h2
theorem rw_append1 {ops:Array Oper}{rest:List Oper}{o:Oper}{a:Act}{Q:Exit→Act→World→Prop}(hgd:o.guard=none)(p x:Operand)
  (ho:o.op = .call { callee :=.builtin .append,args := #[p,x],argTypes := #[35,35] }) (n:Int) (h:Rw X w0 V0 w base g A c ts V s v l) (hs:a.eval p=v)
  (hx:a.eval x = .slice (some ⟨w.heap.size,0,none⟩) 1 1) (hlen:l.length≤900000)
  (hk:∀v' w',Rw X w0 V0 w' base g A c ts V s v' (l++[n])→wpList Tryz.prog ops Q rest (a.put o.dst v') w'):wpList Tryz.prog ops Q (o :: rest) a (w.alloc (.cells #[.int .i64 n] 3)):=
 rw_append hgd p x ho (h.below (heap1 w (.cells #[.int .i64 n] 3))) hs ⟨w.heap.size,0,none⟩ 1 1 [n] hx rfl (blk_cells w [.int .i64 n] 3) (by simp;omega) hk
def LPost (X:Nat→Prop)(base g:Nat)(A:Option Addr)(c:Nat)(ts:List Tok)(V:Value)(w:World)(R:Rs)(e:Ending)(w':World):Prop:=
 NP g V w R e w'∨∃l s' V' v,R = .ok l s'∧e = .returned v∧Rw X w V w' base g A c ts V' s' v l∧l.length≤s'.nx
end
end
end Go.Proofs.YteecfjhjllajlaaGreatDoor
