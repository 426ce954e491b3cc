/- PROVED here: parts Xq Xr Xs of the claim. No condition but those in each theorem's own head. -/
import Derived.Test.YteecfjhjllajlaaGreatDoorM16
import Derived.Laws.EntriesVeiled
namespace Go.Proofs.YteecfjhjllajlaaGreatDoor
section
set_option maxHeartbeats 2500000
set_option maxRecDepth 100000
open Go Go.RowKit
open Tr (Bx heap1 bt Nds Ints)
def Caps (w0:World)(A:Option Addr)(l:List Tr.Nd):Prop:=∀(p:Nat) (bA off:Nat) (K:Option Addr) (m c:Nat),p<l.length→A=some ⟨bA,off,none⟩→w0.cell? ⟨bA,off+p*5+4,none⟩=some (.slice K m c)→(ndA l p).kd=13→2≤m→c≠1
theorem lnT_13 (l:List Tr.Nd)(f:Nat)(p k:Int)(ks:List Int)(hk:(ndA l p).kd=13)(hks:(ndA l p).ks=k :: ks):lnT l f p=calT l f (txA l p) k ks:=by
 have hkid:kidA l p 0=k:=by unfold kidA;rw[hks];rfl
 simp[lnT,calT,hk,hkid,hks]
theorem ln_13 {w0:World}{A:Option Addr}{l:List Tr.Nd}{n c b f:Nat}(hx:Px0 w0 A l n)(hcp:Caps w0 A l)(hr:RecE w0 A l n c b f)(d:Int)(p k:Nat)(ks:List Int)(t:List UInt8)(w:World)(hp:p<n)(hk:(ndA l p).kd=13)(hks:(ndA l p).ks=(k:Int) :: ks)(hfew:ks.length+1≤100000)(hkn:k<n)
  (hke:∀x ∈ ks,∃x2:Nat,x=(x2:Int)∧x2<f∧x2<n∧Tr.expB (ndA l x2).kd=true) (hb:Below w0.heap.size w0 w) (h:Pg w0.heap.size b t w) (hl:t.length+(lnT l f p).length≤140737488355328):Calls Tryz.prog 72 #[PV A n c b d,.int .i64 (p:Int)] w (WrPost w0.heap.size b (t++lnT l f p) (.tuple #[]) w):=by
 have hpl:p<l.length:=by rw[← hx.len];exact hp
 rw[lnT_13 l f p k ks hk hks]at hl ⊢
 obtain⟨bA,off,K,cK,rfl,hlt0,y0,y1,y2,y3,y4,z5⟩:=node_at hx.nds (Below.refl _ w0) p hpl
 rw[← ndA_eq hpl]at y0 y1 y2 y3 y4 z5
 rw[hks]at y4 z5
 have hcap:=hcp p bA off K _ cK hpl rfl y4 hk
 have c0:=(hb.cell (p:=⟨bA,off+p*5,none⟩) hlt0).trans y0
 have c1:=(hb.cell (p:=⟨bA,off+p*5+1,none⟩) hlt0).trans y1
 have c2:=(hb.cell (p:=⟨bA,off+p*5+2,none⟩) hlt0).trans y2
 have c3:=(hb.cell (p:=⟨bA,off+p*5+3,none⟩) hlt0).trans y3
 have c4:=(hb.cell (p:=⟨bA,off+p*5+4,none⟩) hlt0).trans y4
 have hlt:bA<w.heap.size:=Nat.lt_of_lt_of_le hlt0 hb.size
 rw[hk]at c0
 have hpz:(p:Int)<(n:Int):=by omega
 obtain⟨bk,ok,rfl,hbk,hcs⟩:=z5 (by simp)
 obtain⟨m,hm⟩:∃m,m=ks.length+1:=⟨_,rfl⟩
 rw[List.length_cons,← hm]at hcap c4
 have H:=Lib.hid h
 have HB:=Lib.hid hb
 have hbw:=h.bw
 have hbl:=h.lt
 unfold txA at hl ⊢
 have HE:=Lib.hid (fun w' (q:Below w0.heap.size w0 w') (h':Pg w0.heap.size b t w')=>call_pg hx hr d 13 (ndA l p).n (ndA l p).pl (ndA l p).tx bk ok m cK k ks t w' hkn hm (by omega) hcap hbk hcs hke q h' hl)
 unfold PV at HE
 unfold PV
 generalize calT l f (ndA l p).tx.data.toList k ks=y at *
 generalize (ndA l p).n=nn at *
 generalize (ndA l p).pl=pl at *
 generalize (ndA l p).tx=tx at *
 clear hk hks hx hcp hr hb h hl hpl y0 y1 y2 y3 y4 z5 hcs hm hcap hke hfew
 go_enter Tryz.func72,Tryz.ntmps72
 go_wp2_with (go_at_call 133;refine(HE.out _ ((HB.out.alloc hbw _).alloc (by rw[World.size_alloc];omega) _) ((H.out.alloc _).alloc _)).mono ?_)
 rintro e w1 ⟨rfl,hp1,hk1⟩
 have HP:=Lib.hid hp1
 have HK:=Lib.hid hk1
 clear hp1 hk1
 go_wp2
 go_end0
 exact⟨rfl,HP.out,(((Kp.refl _ b w).alloc hbw _).alloc (by rw[World.size_alloc];omega) _).trans HK.out⟩
end
section
open Go Go.RowKit
open Tr (Nds)
def LnOk (l:List Tr.Nd)(n f p:Nat):Prop:=
 (((ndA l p).kd=7∨(ndA l p).kd=11∨(ndA l p).kd=12∨(ndA l p).kd=15∨(ndA l p).kd=17)∧∃k:Nat,(ndA l p).ks[0]?=some (k:Int)∧k<f∧k<n∧Tr.expB (ndA l k).kd=true) ∨
 ((ndA l p).kd=8∧∃k j:Nat,(ndA l p).ks=[(k:Int),(j:Int)]∧(k<f∧k<n∧Tr.expB (ndA l k).kd=true)∧j<f∧j<n∧Tr.expB (ndA l j).kd=true) ∨
 ((ndA l p).kd=9∧∃k:Nat,(ndA l p).ks[0]?=some (k:Int)∧k<n) ∨
 ((ndA l p).kd=10∧∃k j:Nat,(ndA l p).ks=[(k:Int),(j:Int)]∧k<n∧j<f∧j<n∧Tr.expB (ndA l j).kd=true) ∨
 ((ndA l p).kd=13∧∃(k:Nat) (ks:List Int),(ndA l p).ks=(k:Int) :: ks∧ks.length+1≤100000∧k<n∧∀x ∈ ks,∃x2:Nat,x=(x2:Int)∧x2<f∧x2<n∧Tr.expB (ndA l x2).kd=true) ∨
 ((ndA l p).kd=14∧(ndA l p).ks.length≤100000∧∀k ∈ (ndA l p).ks,∃k2:Nat,k=(k2:Int)∧k2<f∧k2<n∧Tr.expB (ndA l k2).kd=true) ∨
 (ndA l p).kd=16
theorem line_pg {w0:World}{A:Option Addr}{l:List Tr.Nd}{n:Nat}(c b f:Nat)(hx:Px0 w0 A l n)(hcp:Caps w0 A l)(d:Int)(p:Nat)(t:List UInt8)(w:World)(hp:p<n)(hs:LnOk l n f p)(hb:Below w0.heap.size w0 w)(h:Pg w0.heap.size b t w)(hl:t.length+(lnT l f p).length≤140737488355328) :
  Calls Tryz.prog 72 #[PV A n c b d,.int .i64 (p:Int)] w (WrPost w0.heap.size b (t++lnT l f p) (.tuple #[]) w):=by
 have hr:=expr_pg c b hx f
 rcases hs with⟨hk,k,h0,h1,h2,h3⟩ |⟨hk,k,j,h0,⟨h1,h2,h3⟩,h4,h5,h6⟩ |⟨hk,k,h0,h1⟩ |⟨hk,k,j,h0,h1,h2,h3,h4⟩ |⟨hk,k,ks,h0,h1,h2,h3⟩ |⟨hk,h0,h1⟩ |hk
 ·rcases hk with hk |hk |hk |hk |hk
  ·exact ln_7 hx hr d p k t w hp hk h0 h1 h2 h3 hb h hl
  ·exact ln_11 hx hr d p k t w hp hk h0 h1 h2 h3 hb h hl
  ·exact ln_12 hx hr d p k t w hp hk h0 h1 h2 h3 hb h hl
  ·exact ln_15 hx hr d p k t w hp hk h0 h1 h2 h3 hb h hl
  ·exact ln_17 hx hr d p k t w hp hk h0 h1 h2 h3 hb h hl
 ·exact ln_8 hx hr d p k j t w hp hk h0 h1 h2 h3 h4 h5 h6 hb h hl
 ·exact ln_9 c b f hx d p k t w hp hk h0 h1 hb h hl
 ·exact ln_10 hx hr d p k j t w hp hk h0 h1 h2 h3 h4 hb h hl
 ·exact ln_13 hx hcp hr d p k ks t w hp hk h0 h1 h2 h3 hb h hl
 ·exact ln_14 c b f hx d p t w hp hk hr h0 h1 hb h hl
 ·exact ln_16 c b f hx d p t w hp hk hb h hl
end
section
set_option maxHeartbeats 4000000
set_option maxRecDepth 100000
open Go Go.RowKit
open Tr (Bx heap1 bt Nds Ints)
def S3 (g:Nat)(P1 P2:List Value)(w:World):Prop:=Bx w g 73 P1∧Bx w (g+1) 73 P2
theorem S3.kp {B b g:Nat}{P1 P2:List Value}{w w':World}(h:S3 g P1 P2 w)(q:Kp B b w w')(h2:g≠b)(h3:g+1≠b):S3 g P1 P2 w':=⟨Bx.kp h.1 q h2 (by decide),Bx.kp h.2 q h3 (by decide)⟩
theorem s3_new (w:World)(P1 P2:List Value):S3 w.heap.size P1 P2 ((w.alloc (.cells P1.toArray 73)).alloc (.cells P2.toArray 73)):=by
 have b1:=Bx.new w 73 P1
 have b2:=Bx.new (w.alloc (.cells P1.toArray 73)) 73 P2
 rw[World.size_alloc]at b2
 exact⟨b1.alloc _,b2⟩
theorem block_pg {w0:World}{A:Option Addr}{l:List Tr.Nd}{n:Nat}(c b d:Nat)(hx:Px0 w0 A l n)(st:Nat→Int→List UInt8)(p:Nat)(L:Option Addr)(m cc:Nat)(locals:List Int)(t:List UInt8)(w:World)(hp:p<n)(hd:d≤100000)(hm:m=locals.length)(hm2:m≤100000)(hk2:(ndA l p).ks.length≤100000)
  (hL:∀w',Kp w0.heap.size b w w'→Ints w' L locals) (hloc:∀k ∈ locals,∃k2:Nat,k=(k2:Int)∧k2<n)
  (hst:∀k ∈ (ndA l p).ks,∀t' w',Below w0.heap.size w0 w'→Pg w0.heap.size b t' w'→t'.length+(st (d+1) k).length≤140737488355328→Calls Tryz.prog 246 #[PV A n c b ((d+1:Nat):Int),.int .i64 k] w' (WrPost w0.heap.size b (t'++st (d+1) k) (.tuple #[]) w'))
  (hb:Below w0.heap.size w0 w) (h:Pg w0.heap.size b t w) (hl:t.length+(blkT l st d p locals).length≤140737488355328):Calls Tryz.prog 194 #[PV A n c b (d:Int),.int .i64 (p:Int),.slice L m cc] w (WrPost w0.heap.size b (t++blkT l st d p locals) (.tuple #[]) w):=by
 have hpl:p<l.length:=by rw[← hx.len];exact hp
 obtain⟨bA,off,rfl,hbA,hcA⟩:=hx.nds (by omega)
 obtain⟨K,cK,y0,y1,y2,y3,y4,y5⟩:=hcA p hpl
 rw[← ndA_eq hpl]at y4 y5
 clear y0 y1 y2 y3 hcA
 have hpz:(p:Int)<(n:Int):=by omega
 obtain⟨us,hus⟩:∃us,us=locals.map (varT l (d+1)):=⟨_,rfl⟩
 obtain⟨ys,hys⟩:∃ys,ys=(ndA l p).ks.map (st (d+1)):=⟨_,rfl⟩
 unfold blkT at hl ⊢
 rw[← hus,← hys]at hl ⊢
 have HI:=Lib.hid (fun t' w' (h':Pg w0.heap.size b t' w') (hl':t'.length+(indT d).length≤140737488355328)=>indent_pg (B:=w0.heap.size) (some ⟨bA,off,none⟩) n c b d t' w' (by omega) h' hl')
 have HV0:=fun(k2:Nat) t' w' (hk:k2<n) (q:Below w0.heap.size w0 w') (h':Pg w0.heap.size b t' w') (hl':t'.length+(varT l (d+1) k2).length≤140737488355328)=>variable_pg c b (d+1) hx k2 t' w' hk (by omega) q h' hl'
 have hd1:((d+1:Nat):Int)=(d:Int)+1:=rfl
 rw[hd1]at HV0 hst
 clear hd1
 have HV:=Lib.hid HV0
 have HST:=Lib.hid hst
 have HLO:=Lib.hid hloc
 have HLI:=Lib.hid hL
 have HM:=Lib.hid hm
 have HU:=Lib.hid hus
 have HY:=Lib.hid hys
 obtain⟨ks,hks⟩:∃ks,ks=(ndA l p).ks:=⟨_,rfl⟩
 rw[← hks]at HST HY y4 y5 hk2
 obtain⟨mk,hmk⟩:∃mk,mk=ks.length:=⟨_,rfl⟩
 rw[← hmk]at y4 hk2
 have HY4:=Lib.hid y4
 have HY5:=Lib.hid y5
 have HMK:=Lib.hid hmk
 generalize indT d=yi at *
 have HL:=Lib.hid hl
 have HB:=Lib.hid hb
 have H:=Lib.hid h
 have hbw:=h.bw
 have hbl:=h.lt
 have hsz:=hb.size
 unfold PV at HI HV HST
 unfold PV
 have HX0:=Lib.hid (s3_new w [.slice (some ⟨bA,off,none⟩) n c,.func (.func 117) #[.pointer (some ⟨b,0,none⟩)] #[],.int .i64 (d:Int)] [.slice (some ⟨bA,off,none⟩) n c,.func (.func 117) #[.pointer (some ⟨b,0,none⟩)] #[],.int .i64 ((d:Int)+1)])
 have HP0:=Lib.hid ((h.alloc (.cells #[.slice (some ⟨bA,off,none⟩) n c,.func (.func 117) #[.pointer (some ⟨b,0,none⟩)] #[],.int .i64 (d:Int)] 73)).alloc (.cells #[.slice (some ⟨bA,off,none⟩) n c,.func (.func 117) #[.pointer (some ⟨b,0,none⟩)] #[],.int .i64 ((d:Int)+1)] 73))
 have HW0:=Lib.hid (((Kp.refl w0.heap.size b w).alloc hbw (.cells #[.slice (some ⟨bA,off,none⟩) n c,.func (.func 117) #[.pointer (some ⟨b,0,none⟩)] #[],.int .i64 (d:Int)] 73)).alloc (by rw[World.size_alloc];omega) (.cells #[.slice (some ⟨bA,off,none⟩) n c,.func (.func 117) #[.pointer (some ⟨b,0,none⟩)] #[],.int .i64 ((d:Int)+1)] 73))
 clear hst hloc hL hm hus hys y4 y5 hks hmk hl hb h hx hpl HV0
 go_enter Tryz.func194,Tryz.ntmps194
 go_wp2_with (go_at_call 117;refine(write_new w0.heap.size b t [[32,123,10]] _ HP0.out (by have:=HL.out;simp only[List.length_append,List.length_cons,List.length_nil,List.flatten_cons,List.flatten_nil]at this ⊢;omega) (by simp) 1 rfl _ (by rfl) _ (by simp[World.size_alloc])).mono ?_)
 rintro e w1 ⟨rfl,hp1,hk1⟩
 have HX1:=Lib.hid (HX0.out.kp hk1 (by omega) (by omega))
 have HP1:=Lib.hid hp1
 have HW1:=Lib.hid (HW0.out.trans hk1)
 clear HX0 HP0 HW0 hp1 hk1
 go_wp2
 go_loopg [8,22] m (fun g _ a22 wr=>∃i:Nat,a22 = .int .i64 (i:Int)∧i≤m∧g=m-i∧Pg w0.heap.size b (t++[32,123,10]++(us.take i).flatten) wr∧Kp w0.heap.size b w wr∧S3 w.heap.size [.slice (some ⟨bA,off,none⟩) n c,.func (.func 117) #[.pointer (some ⟨b,0,none⟩)] #[],.int .i64 (d:Int)] [.slice (some ⟨bA,off,none⟩) n c,.func (.func 117) #[.pointer (some ⟨b,0,none⟩)] #[],.int .i64 ((d:Int)+1)] wr)
 case atStart=>exact⟨0,rfl,Nat.zero_le _,rfl,by simpa using HP1.out,HW1.out,HX1.out⟩
 case round=>
  obtain⟨i,rfl,him,rfl,hp,hk,hx⟩:=hrel
  have HP2:=Lib.hid hp
  have HW2:=Lib.hid hk
  have HX2:=Lib.hid hx
  have e0:=(hx.2.cell 0).trans rfl
  have e1:=(hx.2.cell 1).trans rfl
  have e2:=(hx.2.cell 2).trans rfl
  by_cases hlt:i<m
  ·have hlz:(i:Int)<(m:Int):=by omega
   have hik:i<locals.length:=by rw[← HM.out];exact hlt
   obtain⟨bS,oS,rfl,hbS,hcS⟩:=HLI.out wr hk (by omega)
   have cS:=hcS i hik
   have hiy:i<us.length:=by rw[HU.out,List.length_map];exact hik
   have hsn:(us.take (i+1)).flatten=(us.take i).flatten++varT l (d+1) locals[i]:=by
    rw[List.take_succ_eq_append_getElem hiy,List.flatten_append]
    simp[HU.out]
   have hfl:=flat_at us i hiy
   have hyi:us[i].length=(varT l (d+1) locals[i]).length:=by simp[HU.out]
   obtain⟨k2,ek,hk2n⟩:=HLO.out locals[i] (List.getElem_mem hik)
   rw[ek]at cS hsn hyi
   have HC:=Lib.hid (HV.out k2)
   have hle:t.length+3+(us.take i).flatten.length+(varT l (d+1) k2).length≤140737488355328:=by
    have:=HL.out
    simp only[List.length_append,List.length_cons,List.length_nil]at this
    omega
   have HS:=Lib.hid hsn
   have hb3:=HB.out.trans hk.1
   clear hsn hfl hyi hp hk hx hcS hiy ek
   go_wp2_with (go_at_call 119;refine(HC.out _ _ hk2n hb3 HP2.out (by simp only[List.length_append,List.length_cons,List.length_nil];omega)).mono ?_)
   rintro e w3 ⟨rfl,hp4,hk4⟩
   have HX4:=Lib.hid (HX2.out.kp hk4 (by omega) (by omega))
   have HP4:=Lib.hid hp4
   have HW4:=Lib.hid (HW2.out.trans hk4)
   clear hp4 hk4 e0 e1 e2
   go_wp2
   go_roundg (m-(i+1))
   case measure=>go_light;omega
   case rel=>
    go_light
    exact⟨i+1,by go_num,by omega,rfl,by have:=HP4.out;rw[HS.out,← List.append_assoc];exact this,HW4.out,HX4.out⟩
  ·obtain rfl:i=m:=by omega
   have hlz:¬(i:Int)<(i:Int):=by omega
   have ht:us.take i=us:=List.take_of_length_le (by rw[HU.out,List.length_map];have:=HM.out;omega)
   rw[ht]at hp
   have HP3:=Lib.hid hp
   have hb3:=HB.out.trans hk.1
   have n4:=(hb3.cell (p:=⟨bA,off+p*5+4,none⟩) hbA).trans HY4.out
   have e3:=(hx.1.cell 0).trans rfl
   clear hp hk ht HP2 e0 e1 e2 hx
   go_wp2
   clear n4 e3
   go_loopg [10,37] mk (fun g _ a37 wr=>∃i:Nat,a37 = .int .i64 (i:Int)∧i≤mk∧g=mk-i∧Pg w0.heap.size b (t++[32,123,10]++us.flatten++(ys.take i).flatten) wr∧Kp w0.heap.size b w wr∧S3 w.heap.size [.slice (some ⟨bA,off,none⟩) n c,.func (.func 117) #[.pointer (some ⟨b,0,none⟩)] #[],.int .i64 (d:Int)] [.slice (some ⟨bA,off,none⟩) n c,.func (.func 117) #[.pointer (some ⟨b,0,none⟩)] #[],.int .i64 ((d:Int)+1)] wr)
   case atStart=>exact⟨0,rfl,Nat.zero_le _,rfl,by simpa using HP3.out,HW2.out,HX2.out⟩
   case round=>
    obtain⟨j,rfl,hjm,rfl,hp,hk,hx⟩:=hrel
    have HP4:=Lib.hid hp
    have HW4:=Lib.hid hk
    have HX4:=Lib.hid hx
    have hb4:=HB.out.trans hk.1
    have e0:=(hx.2.cell 0).trans rfl
    have e1:=(hx.2.cell 1).trans rfl
    have e2:=(hx.2.cell 2).trans rfl
    by_cases hjt:j<mk
    ·have hjz:(j:Int)<(mk:Int):=by omega
     have hik:j<ks.length:=by rw[← HMK.out];exact hjt
     obtain⟨bS,oS,rfl,hbS,hcS⟩:=(HY5.out.below hb4) (by omega)
     have cS:=hcS j hik
     have hiy:j<ys.length:=by rw[HY.out,List.length_map];exact hik
     have hsn:(ys.take (j+1)).flatten=(ys.take j).flatten++st (d+1) ks[j]:=by
      rw[List.take_succ_eq_append_getElem hiy,List.flatten_append]
      simp[HY.out]
     have hfl:=flat_at ys j hiy
     have hyi:ys[j].length=(st (d+1) ks[j]).length:=by simp[HY.out]
     have HC:=Lib.hid (HST.out ks[j] (List.getElem_mem hik))
     generalize ks[j]=k at *
     have hle:t.length+3+us.flatten.length+(ys.take j).flatten.length+(st (d+1) k).length≤140737488355328:=by
      have:=HL.out
      simp only[List.length_append,List.length_cons,List.length_nil]at this
      omega
     have HS:=Lib.hid hsn
     clear hsn hfl hyi hp hk hx hcS hiy
     go_wp2_with (go_at_call 246;refine(HC.out _ _ hb4 HP4.out (by simp only[List.length_append,List.length_cons,List.length_nil];omega)).mono ?_)
     rintro e w3 ⟨rfl,hp4,hk4⟩
     have HX5:=Lib.hid (HX4.out.kp hk4 (by omega) (by omega))
     have HP5:=Lib.hid hp4
     have HW5:=Lib.hid (HW4.out.trans hk4)
     clear hp4 hk4 e0 e1 e2
     go_wp2
     go_roundg (mk-(j+1))
     case measure=>go_light;omega
     case rel=>
      go_light
      exact⟨j+1,by go_num,by omega,rfl,by have:=HP5.out;rw[HS.out,← List.append_assoc];exact this,HW5.out,HX5.out⟩
    ·obtain rfl:j=mk:=by omega
     have hjz:¬(j:Int)<(j:Int):=by omega
     have ht:ys.take j=ys:=List.take_of_length_le (by rw[HY.out,List.length_map];have:=HMK.out;omega)
     rw[ht]at hp
     have HP5:=Lib.hid hp
     clear hp hk ht HP4 e0 e1 e2
     have e0:=(hx.1.cell 0).trans rfl
     have e1:=(hx.1.cell 1).trans rfl
     have e2:=(hx.1.cell 2).trans rfl
     clear hx
     go_wp2_with (go_at_call 190;refine(HI.out _ _ HP5.out (by have:=HL.out;simp only[List.length_append,List.length_cons,List.length_nil]at this ⊢;omega)).mono ?_)
     rintro e w3 ⟨rfl,hp4,hk4⟩
     have hx5:=HX4.out.kp hk4 (by omega) (by omega)
     have HX5:=Lib.hid hx5
     have HP6:=Lib.hid hp4
     have HW6:=Lib.hid (HW4.out.trans hk4)
     clear hp4 hk4 e0 e1 e2
     have e1:=(hx5.1.cell 1).trans rfl
     clear hx5
     go_wp2_with (go_at_call 117;refine(write_new w0.heap.size b _ [[125]] _ HP6.out (by have:=HL.out;simp only[List.length_append,List.length_cons,List.length_nil,List.flatten_cons,List.flatten_nil]at this ⊢;omega) (by simp) 1 rfl _ (by rfl) _ rfl).mono ?_)
     rintro e w5 ⟨rfl,hp7,hk7⟩
     have HP7:=Lib.hid hp7
     have HW7:=Lib.hid (HW6.out.trans hk7)
     clear hp7 hk7 e1
     go_wp2
     go_end0
     exact⟨rfl,by simpa using HP7.out,HW7.out⟩
end
end Go.Proofs.YteecfjhjllajlaaGreatDoor
