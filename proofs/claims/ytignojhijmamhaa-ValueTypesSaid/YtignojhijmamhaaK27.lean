/- PROVED here: parts TyCq TyCz TyCr of the claim. No condition but those in each theorem's own head. -/
import Derived.Test.YtignojhijmamhaaK26
import Derived.Test.YtignojhijmamhaaK24
namespace Go.Proofs.Ytignojhijmamhaa.Ty
open Go Go.RowKit
open Tr (Bx heap1 bt Nds Ints VPost BPost rgB)
section
variable {w : World} {l : List Tr.Nd} {A O : Option Addr} {n bd bp : Nat}
set_option maxRecDepth 100000 in
set_option maxHeartbeats 1500000 in
theorem fault_any (h : Prg w l A n O bd bp) (hcp : Caps w A l) (c co p : Nat) (hp : p < n) (hF : NdF l p) : Calls Try.prog 18 #[PrV A n c O co bd bp, .int .i64 (p : Int)] w (Tr.IPost (fauA l p) w) := by
  unfold PrV
  have hb0 := heap1 w (.cells #[.slice A n c, .slice O n co, .map (some bd), .map (some bp)] 59)
  have hX := Bx.new w 59 [.slice A n c, .slice O n co, .map (some bd), .map (some bp)]
  obtain ⟨W0, hW0⟩ : ∃ W0, w.alloc (.cells #[.slice A n c, .slice O n co, .map (some bd), .map (some bp)] 59) = W0 := ⟨_, rfl⟩
  rw [hW0] at hb0 hX
  have HB0 := Lib.hid hb0
  have HX := Lib.hid hX
  have b0 := (hX.cell 0).trans rfl
  have b1 := (hX.cell 1).trans rfl
  have b2 := (hX.cell 2).trans rfl
  have b3 := (hX.cell 3).trans rfl
  clear hX
  have HTK := Lib.hid (fun W (hb : Below W0.heap.size W0 W) => isTaken_any (h.below (bt hb0 hb)) c co p hp)
  have HUK := Lib.hid (fun W (hb : Below W0.heap.size W0 W) => isUnknown_any (h.below (bt hb0 hb)) c co p hp hF)
  have HMT := Lib.hid (fun W (hb : Below W0.heap.size W0 W) (hu : unkB l p = false) => isMistyped_any (h.below (bt hb0 hb)) (hcp.below h.nds (bt hb0 hb)) c co p hp hF hu)
  unfold PrV at HTK HUK HMT
  unfold fauA
  clear h hcp hF hp hb0
  cases ht : takB l p with
  | true =>
    have HC1 := Lib.hid (HTK.out _ (Below.refl _ _))
    rw [ht] at HC1
    rw [if_pos rfl]
    clear HTK HUK HMT ht
    go_enter Try.func18, Try.ntmps18
    try rw [hW0]
    go_wp2_with (go_at_call 35; refine HC1.out.mono ?_)
    rintro e w1 ⟨rfl, hq1⟩
    have hb1 := hq1
    have HB1 := Lib.hid hb1
    clear hb1 hq1
    go_wp2
    go_ret
    exact ⟨rfl, bt HB0.out HB1.out⟩
  | false =>
    have HC1 := Lib.hid (HTK.out _ (Below.refl _ _))
    rw [ht] at HC1
    rw [if_neg (by decide)]
    clear HTK ht
    cases hu : unkB l p with
    | true =>
      rw [if_pos rfl]
      clear HMT
      go_enter Try.func18, Try.ntmps18
      go_wp2_with (go_at_call 35; refine HC1.out.mono ?_)
      rintro e w1 ⟨rfl, hq1⟩
      have hb1 := hq1
      have HB1 := Lib.hid hb1
      have hBa := HX.out.below hb1 HX.out.lt
      have c0 := (hBa.cell 0).trans rfl
      have c1 := (hBa.cell 1).trans rfl
      have c2 := (hBa.cell 2).trans rfl
      have c3 := (hBa.cell 3).trans rfl
      clear hBa
      have HC2 := Lib.hid (HUK.out _ hb1)
      rw [hu] at HC2
      clear hb1 hq1 hu HUK
      go_wp2_with (go_at_call 36; refine HC2.out.mono ?_)
      rintro e w2 ⟨rfl, hq2⟩
      have hb2 := bt HB1.out hq2
      have HB2 := Lib.hid hb2
      clear hb2 hq2
      go_wp2
      go_ret
      exact ⟨rfl, bt HB0.out HB2.out⟩
    | false =>
      rw [if_neg (by decide)]
      cases hm : misB l p with
      | true =>
        rw [if_pos rfl]
        go_enter Try.func18, Try.ntmps18
        go_wp2_with (go_at_call 35; refine HC1.out.mono ?_)
        rintro e w1 ⟨rfl, hq1⟩
        have hb1 := hq1
        have HB1 := Lib.hid hb1
        have hBa := HX.out.below hb1 HX.out.lt
        have c0 := (hBa.cell 0).trans rfl
        have c1 := (hBa.cell 1).trans rfl
        have c2 := (hBa.cell 2).trans rfl
        have c3 := (hBa.cell 3).trans rfl
        clear hBa
        have HC2 := Lib.hid (HUK.out _ hb1)
        rw [hu] at HC2
        clear hb1 hq1
        go_wp2_with (go_at_call 36; refine HC2.out.mono ?_)
        rintro e w2 ⟨rfl, hq2⟩
        have hb2 := bt HB1.out hq2
        have HB2 := Lib.hid hb2
        have hBa := HX.out.below hb2 HX.out.lt
        have d0 := (hBa.cell 0).trans rfl
        have d1 := (hBa.cell 1).trans rfl
        have d2 := (hBa.cell 2).trans rfl
        have d3 := (hBa.cell 3).trans rfl
        clear hBa
        have HC3 := Lib.hid (HMT.out _ hb2 hu)
        rw [hm] at HC3
        clear hb2 hq2 hm hu HUK HMT c0 c1 c2 c3
        go_wp2_with (go_at_call 37; refine HC3.out.mono ?_)
        rintro e w3 ⟨rfl, hq3⟩
        have hb3 := bt HB2.out hq3
        have HB3 := Lib.hid hb3
        clear hb3 hq3
        go_wp2
        go_ret
        exact ⟨rfl, bt HB0.out HB3.out⟩
      | false =>
        rw [if_neg (by decide)]
        go_enter Try.func18, Try.ntmps18
        go_wp2_with (go_at_call 35; refine HC1.out.mono ?_)
        rintro e w1 ⟨rfl, hq1⟩
        have hb1 := hq1
        have HB1 := Lib.hid hb1
        have hBa := HX.out.below hb1 HX.out.lt
        have c0 := (hBa.cell 0).trans rfl
        have c1 := (hBa.cell 1).trans rfl
        have c2 := (hBa.cell 2).trans rfl
        have c3 := (hBa.cell 3).trans rfl
        clear hBa
        have HC2 := Lib.hid (HUK.out _ hb1)
        rw [hu] at HC2
        clear hb1 hq1
        go_wp2_with (go_at_call 36; refine HC2.out.mono ?_)
        rintro e w2 ⟨rfl, hq2⟩
        have hb2 := bt HB1.out hq2
        have HB2 := Lib.hid hb2
        have hBa := HX.out.below hb2 HX.out.lt
        have d0 := (hBa.cell 0).trans rfl
        have d1 := (hBa.cell 1).trans rfl
        have d2 := (hBa.cell 2).trans rfl
        have d3 := (hBa.cell 3).trans rfl
        clear hBa
        have HC3 := Lib.hid (HMT.out _ hb2 hu)
        rw [hm] at HC3
        clear hb2 hq2 hm hu HUK HMT c0 c1 c2 c3
        go_wp2_with (go_at_call 37; refine HC3.out.mono ?_)
        rintro e w3 ⟨rfl, hq3⟩
        have hb3 := bt HB2.out hq3
        have HB3 := Lib.hid hb3
        clear hb3 hq3
        go_wp2
        go_ret
        exact ⟨rfl, bt HB0.out HB3.out⟩
end
structure TT (w : World) (A : Option Addr) (n : Nat) (l : List Tr.Nd) : Prop where
  nds : Nds w A l
  len : n = l.length
  kids : ∀ x ∈ l, x.ks.length ≤ 4000
  text : ∀ x ∈ l, x.tx.size ≤ 9223372036854775807
  num : ∀ x ∈ l, x.n ≤ 9223372036854775807
  caps : Caps w A l
theorem TT.below {w w' : World} {A : Option Addr} {n : Nat} {l : List Tr.Nd} (h : TT w A n l) (hb : Below w.heap.size w w') : TT w' A n l :=
  ⟨h.nds.below hb, h.len, h.kids, h.text, h.num, h.caps.below h.nds hb⟩
theorem TT.right {w : World} {A : Option Addr} {n : Nat} {l : List Tr.Nd} (h : TT w A n l) (c : Nat) (r : Int) : Calls Try.prog 32 #[.agg #[.slice A n c, .int .i64 r]] w (BPost (rgB l r) w) := Tr.right_any A c n l r w h.nds h.len (fun x hx => by have := h.kids x hx; omega) h.text h.num
def RPost (L : List Tr.Nd) (w : World) (e : Ending) (w' : World) : Prop :=
  ∃ A n c O co bd bp, e = .returned (PrV A n c O co bd bp) ∧ Prg w' L A n O bd bp ∧ Caps w' A L ∧ Below w.heap.size w w'
theorem read_any {w : World} {A : Option Addr} {n : Nat} {l : List Tr.Nd} (h : TT w A n l) (c : Nat) (r : Int) : Calls Try.prog 16 #[.agg #[.slice A n c, .int .i64 r]] w (RPost (eff l r) w) := by
  have HR : ∀ w', Below w.heap.size w w' → Calls Try.prog 32 #[.agg #[.slice A n c, .int .i64 r]] w' (BPost (rgB l r) w') := fun w' hb => (h.below hb).right c r
  cases hr : rgB l r with
  | true =>
    rw [hr] at HR
    rw [eff_yes hr]
    obtain ⟨⟨b, hb⟩, h4, _⟩ := rtn_of hr
    have h1 := hb.len
    have hl := h.len
    refine callsIn_wide.1 (read_go A c n r l w h.nds h.len (by omega) (by omega) h.text HR _ (Lib.hid ?_))
    rintro e w' ⟨n', c', O, co, bd, bp, rfl, hn, hbw, hO, hd, hp⟩
    obtain rfl : n' = n := by omega
    exact ⟨A, n', c', O, co, bd, bp, rfl, ⟨h.nds.below hbw, h.len, by omega, hO, hd, hp, h.kids, h.text, snd_ahead (rg_parts hr).1⟩, h.caps.below h.nds hbw, hbw⟩
  | false =>
    rw [hr] at HR
    rw [eff_no hr]
    refine callsIn_wide.1 (read_no A c n r w HR _ (Lib.hid ?_))
    rintro e w' ⟨n', c', O, co, bd, bp, rfl, hn, hbw, hO, hd, hp⟩
    exact ⟨none, n', c', O, co, bd, bp, rfl, ⟨fun h0 => absurd h0 (Nat.lt_irrefl 0), hn, by rw [hn]; exact Nat.zero_le _, hO, hd, hp, fun x hx => (by cases hx), fun x hx => (by cases hx), fun p hp => absurd hp (Nat.not_lt_zero _)⟩, fun p bA off K m c hp => absurd hp (Nat.not_lt_zero _), hbw⟩
end Go.Proofs.Ytignojhijmamhaa.Ty
namespace Go.Proofs.Ytignojhijmamhaa.Ty
open Go Go.RowKit
open Tr (Bx heap1 bt Nds Ints VPost BPost rgB)
section
variable {w : World} {l : List Tr.Nd} {A : Option Addr} {n : Nat}
set_option maxRecDepth 100000 in
set_option maxHeartbeats 8000000 in
theorem check_any (h : TT w A n l) (c : Nat) (r : Int) : Calls Try.prog 6 #[.agg #[.slice A n c, .int .i64 r]] w (VPost (.tuple #[.int .i64 (chkT l r).1, .int .i64 (chkT l r).2]) w) := by
  have hb0 := heap1 w (.cells #[.slice A n c, .int .i64 r] 24)
  have HB0 := Lib.hid hb0
  have HR := Lib.hid (read_any (h.below hb0) c r)
  have HT := Lib.hid (Bx.new w 24 [.slice A n c, .int .i64 r])
  unfold chkT
  cases hr : rgB l r with
  | false =>
    rw [eff_no hr] at HR
    rw [if_neg (by decide)]
    clear h hb0 hr
    go_enter Try.func6, Try.ntmps6
    go_wp2_with (go_at_call 16; refine HR.out.mono ?_)
    rintro e w1 ⟨A1, n1, c1, O, co, bd, bp, rfl, hP, _, hb1⟩
    unfold PrV
    obtain rfl : n1 = 0 := hP.len
    have hN := isNothing_any (w1.alloc (.cells #[.slice A1 0 c1, .slice O 0 co, .map (some bd), .map (some bp)] 59)) A1 O 0 bd bp c1 co
    unfold PrV at hN
    have HN := Lib.hid hN
    have HB1 := Lib.hid (bt (bt HB0.out hb1) (heap1 w1 (.cells #[.slice A1 0 c1, .slice O 0 co, .map (some bd), .map (some bp)] 59)))
    clear hP hb1 hN
    go_wp2_with (go_at_call 17; refine HN.out.mono ?_)
    rintro e w2 ⟨rfl, hb2⟩
    have HB2 := Lib.hid (bt HB1.out hb2)
    clear hb2
    go_wp2
    exact bodyPost_ret (v := .tuple #[.int .i64 0, .int .i64 1]) (by simp [results, Try.f6, go_sem]) rfl ⟨rfl, HB2.out⟩
  | true =>
    rw [eff_yes hr] at HR
    rw [if_pos rfl]
    obtain ⟨⟨b, hRt⟩, hx4, hx5⟩ := rtn_of hr
    have HX4 := Lib.hid hx4
    clear hx4 hx5
    have HRT := Lib.hid hRt
    clear h hb0 hr hRt
    go_enter Try.func6, Try.ntmps6
    go_wp2_with (go_at_call 16; refine HR.out.mono ?_)
    rintro e w1 ⟨A1, n1, c1, O, co, bd, bp, rfl, hP, hC, hb1⟩
    unfold PrV
    have hbx := heap1 w1 (.cells #[.slice A1 n1 c1, .slice O n1 co, .map (some bd), .map (some bp)] 59)
    have hN := isNothing_any (w1.alloc (.cells #[.slice A1 n1 c1, .slice O n1 co, .map (some bd), .map (some bp)] 59)) A1 O n1 bd bp c1 co
    have hX := Bx.new w1 59 [.slice A1 n1 c1, .slice O n1 co, .map (some bd), .map (some bp)]
    have hT := (HT.out.below hb1 HT.out.lt).alloc (.cells #[.slice A1 n1 c1, .slice O n1 co, .map (some bd), .map (some bp)] 59)
    have HL := Lib.hid hP.len
    have h0 : decide (n1 = 0) = false := decide_eq_false (by have := HRT.out.len; have := HL.out; omega)
    rw [h0] at hN
    unfold PrV at hN
    have HN := Lib.hid hN
    have HB1 := Lib.hid (bt (bt HB0.out hb1) hbx)
    have HP := Lib.hid (And.intro (hP.below hbx) (hC.below hP.nds hbx))
    have HX := Lib.hid (And.intro hX hT)
    clear hP hC hb1 hN hX hT hbx h0 HR HT
    go_wp2_with (go_at_call 17; refine HN.out.mono ?_)
    rintro e w2 ⟨rfl, hb2⟩
    have HX2 := Lib.hid (And.intro (HX.out.1.below hb2 HX.out.1.lt) (HX.out.2.below hb2 HX.out.2.lt))
    have HP2 := Lib.hid (And.intro (HP.out.1.below hb2) (HP.out.2.below HP.out.1.nds hb2))
    have HB2 := Lib.hid (bt HB1.out hb2)
    have c0 := (HX2.out.1.cell 0).trans rfl
    clear hb2 HX HP HB1 HN
    go_wp2
    clear c0
    go_loopg [14] n1 (fun g a14 wr => ∃ i : Nat, a14 = .int .i64 (i : Int) ∧ i ≤ n1 ∧ g = n1 - i ∧ (∀ j, j < i → fauA l j = 0) ∧ Below w2.heap.size w2 wr)
    case atStart => exact ⟨0, rfl, Nat.zero_le _, rfl, fun j hj => absurd hj (Nat.not_lt_zero _), Below.refl _ _⟩
    case round =>
      obtain ⟨i, rfl, hi, rfl, ht, hb⟩ := hrel
      have HB := Lib.hid hb
      have HE := Lib.hid ht
      have hn4 : n1 ≤ 4000 := by have := HL.out; have := HX4.out; omega
      have hXr := HX2.out.1.below hb HX2.out.1.lt
      have b0 := (hXr.cell 0).trans rfl
      have b1 := (hXr.cell 1).trans rfl
      have b2 := (hXr.cell 2).trans rfl
      have b3 := (hXr.cell 3).trans rfl
      by_cases hlt : i < n1
      · have hlz : (i : Int) < (n1 : Int) := by omega
        have hil : i < l.length := by rw [← HL.out]; exact hlt
        have hC := fault_any (HP2.out.1.below hb) (HP2.out.2.below HP2.out.1.nds hb) c1 co i hlt (HRT.out.ndf hil)
        unfold PrV at hC
        have HC := Lib.hid hC
        have HIL := Lib.hid hil
        obtain ⟨fz, hfz⟩ : ∃ fz, fauA l i = fz := ⟨_, rfl⟩
        rw [hfz] at HC
        have HFZ := Lib.hid hfz
        clear hXr hb ht hC hfz hil
        by_cases hz : fz = 0
        · subst hz
          go_wp2_with (go_at_call 18; refine HC.out.mono ?_)
          rintro e w3 ⟨rfl, hb3⟩
          have HB3 := Lib.hid (bt HB.out hb3)
          clear hb3
          go_wp2
          go_roundg (n1 - (i + 1))
          case measure => go_light; omega
          case rel =>
            go_light
            exact ⟨i + 1, by go_num, by omega, rfl, fun j hj => by rcases Nat.lt_or_eq_of_le (Nat.le_of_lt_succ hj) with e | e; exact HE.out j e; rw [e]; exact HFZ.out, HB3.out⟩
        · have hzn : (fz != 0) = true := by simp [hz]
          have HRS := Lib.hid (show chkA l r = ((i : Int), fz) by
            unfold chkA
            rw [fstA_is (Nat.zero_le i) HIL.out (by simp [HFZ.out, hz]) (fun j _ hj => by simp [HE.out j hj])]
            show ((i : Int), fauA l i) = _
            rw [HFZ.out])
          clear hz
          go_wp2_with (go_at_call 18; refine HC.out.mono ?_)
          rintro e w3 ⟨rfl, hb3⟩
          have HB3 := Lib.hid (bt HB.out hb3)
          clear hb3
          go_wp2
          exact bodyPost_ret (v := .tuple #[.int .i64 (i : Int), .int .i64 fz]) (by simp [results, Try.f6, go_sem]) rfl ⟨by rw [HRS.out]; try rfl, bt HB2.out HB3.out⟩
      · have hlz : ¬ (i : Int) < (n1 : Int) := by omega
        have HN0 := Lib.hid (show fstA (fun p => !decide (fauA l p = 0)) 0 l.length = none by
          cases e : fstA (fun p => !decide (fauA l p = 0)) 0 l.length with
          | none => rfl
          | some q =>
            obtain ⟨_, h2, h3, _⟩ := fstA_some e
            have h4 := HE.out q (by have := HL.out; omega)
            simp [h4] at h3)
        have hC := hasMain_any (HP2.out.1.below hb) c1 co
        unfold PrV at hC
        have HC := Lib.hid hC
        have hTr := HX2.out.2.below hb HX2.out.2.lt
        have HTR := Lib.hid hTr
        clear hXr hb ht hC hTr
        cases hm : manB l with
        | true =>
          rw [hm] at HC
          have HRS := Lib.hid (show chkA l r = (0, 0) by unfold chkA; rw [HN0.out]; show (if manB l then _ else _) = _; rw [hm]; rfl)
          clear hm
          go_wp2_with (go_at_call 19; refine HC.out.mono ?_)
          rintro e w3 ⟨rfl, hb3⟩
          have HB3 := Lib.hid (bt HB.out hb3)
          clear hb3
          go_wp2
          exact bodyPost_ret (v := .tuple #[.int .i64 0, .int .i64 0]) (by simp [results, Try.f6, go_sem]) rfl ⟨by rw [HRS.out]; try rfl, bt HB2.out HB3.out⟩
        | false =>
          rw [hm] at HC
          have HRS := Lib.hid (show chkA l r = (r, 11) by unfold chkA; rw [HN0.out]; show (if manB l then _ else _) = _; rw [hm]; rfl)
          clear hm
          go_wp2_with (go_at_call 19; refine HC.out.mono ?_)
          rintro e w3 ⟨rfl, hb3⟩
          have t1 := ((HTR.out.below hb3 HTR.out.lt).cell 1).trans rfl
          have HB3 := Lib.hid (bt HB.out hb3)
          clear hb3
          go_wp2
          exact bodyPost_ret (v := .tuple #[.int .i64 r, .int .i64 11]) (by simp [results, Try.f6, go_sem]) rfl ⟨by rw [HRS.out]; try rfl, bt HB2.out HB3.out⟩
end
end Go.Proofs.Ytignojhijmamhaa.Ty
namespace Go.Proofs.Ytignojhijmamhaa.Ty
open Go Go.RowKit
open Tr (Bx heap1 bt Nds Ints VPost BPost rgB)
section
variable (l : List Tr.Nd) (r z : Int) (nm : ByteArray)
noncomputable def pcT : Int := optZ (prF (eff l r) nm 0)
noncomputable def tpT : Int := if 0 ≤ z ∧ z < ((eff l r).length : Int) then typA (eff l r) z.toNat else 0
end
section
variable {w : World} {l : List Tr.Nd} {A : Option Addr} {n : Nat}
set_option maxRecDepth 100000 in
set_option maxHeartbeats 1500000 in
theorem type_any (h : TT w A n l) (c : Nat) (r z : Int) : Calls Try.prog 8 #[.agg #[.slice A n c, .int .i64 r], .int .i64 z] w (Tr.IPost (tpT l r z) w) := by
  have hb0 := heap1 w (.cells #[.slice A n c, .int .i64 r] 24)
  have HB0 := Lib.hid hb0
  have HR := Lib.hid (read_any (h.below hb0) c r)
  obtain ⟨ov, hov⟩ : ∃ ov, tpT l r z = ov := ⟨_, rfl⟩
  rw [hov]
  unfold tpT at hov
  have HOV := Lib.hid hov
  clear h hb0 hov
  generalize eff l r = L at *
  go_enter Try.func8, Try.ntmps8
  go_wp2_with (go_at_call 16; refine HR.out.mono ?_)
  rintro e w1 ⟨A1, n1, c1, O, co, bd, bp, rfl, hP, hC, hb1⟩
  unfold PrV
  have hbx := heap1 w1 (.cells #[.slice A1 n1 c1, .slice O n1 co, .map (some bd), .map (some bp)] 59)
  have hh := has_any (w1.alloc (.cells #[.slice A1 n1 c1, .slice O n1 co, .map (some bd), .map (some bp)] 59)) A1 O n1 bd bp c1 co z
  unfold PrV at hh
  have HX := Lib.hid (Bx.new w1 59 [.slice A1 n1 c1, .slice O n1 co, .map (some bd), .map (some bp)])
  have HP := Lib.hid (hP.below hbx)
  have HB1 := Lib.hid (bt (bt HB0.out hb1) hbx)
  have HL := Lib.hid hP.len
  clear HR hP hC hb1 hbx
  by_cases hz : 0 ≤ z ∧ z < (L.length : Int)
  · have hv := HOV.out
    rw [if_pos hz] at hv
    clear HOV
    obtain ⟨k, rfl⟩ : ∃ k : Nat, z = (k : Int) := ⟨z.toNat, by omega⟩
    replace hv : typA L k = ov := hv
    subst hv
    have hk : k < n1 := by have := HL.out; omega
    have hkz : (k : Int) < (n1 : Int) := by omega
    rw [decide_eq_true hz.1, decide_eq_true hkz] at hh
    have HH := Lib.hid (show Calls Try.prog 22 #[.agg #[.slice A1 n1 c1, .slice O n1 co, .map (some bd), .map (some bp)], .int .i64 (k : Int)] (w1.alloc (.cells #[.slice A1 n1 c1, .slice O n1 co, .map (some bd), .map (some bp)] 59)) (BPost true (w1.alloc (.cells #[.slice A1 n1 c1, .slice O n1 co, .map (some bd), .map (some bp)] 59))) from hh)
    clear hh hz
    go_wp2_with (go_at_call 22; refine HH.out.mono ?_)
    rintro e w2 ⟨rfl, hb2⟩
    have hX2 := HX.out.below hb2 HX.out.lt
    have q0 := (hX2.cell 0).trans rfl
    have q1 := (hX2.cell 1).trans rfl
    have q2 := (hX2.cell 2).trans rfl
    have q3 := (hX2.cell 3).trans rfl
    have HP2 := Lib.hid (HP.out.below hb2)
    have HX2 := Lib.hid hX2
    have HB2 := Lib.hid (bt HB1.out hb2)
    have hq := typeE_any HP2.out c1 co k hk
    unfold PrV at hq
    have HQ := Lib.hid hq
    clear hb2 hX2 hq
    go_wp2_with (go_at_call 23; refine HQ.out.mono ?_)
    rintro e w3 ⟨rfl, hb3⟩
    have HB3 := Lib.hid (bt HB2.out hb3)
    clear hb3
    go_wp2
    go_ret
    exact ⟨rfl, HB3.out⟩
  · have hv := HOV.out
    rw [if_neg hz] at hv
    subst hv
    clear HOV
    have hf : (decide (0 ≤ z) && decide (z < (n1 : Int))) = false := by
      rw [HL.out, Bool.eq_false_iff]
      intro h2
      simp only [Bool.and_eq_true, decide_eq_true_eq] at h2
      exact hz h2
    rw [hf] at hh
    have HH := Lib.hid hh
    clear hh hz hf
    go_wp2_with (go_at_call 22; refine HH.out.mono ?_)
    rintro e w2 ⟨rfl, hb2⟩
    have HB2 := Lib.hid (bt HB1.out hb2)
    clear hb2
    go_wp2
    go_ret
    exact ⟨rfl, HB2.out⟩
set_option maxRecDepth 100000 in
set_option maxHeartbeats 1500000 in
theorem procT_any (h : TT w A n l) (c : Nat) (r : Int) (nm : ByteArray) (hn : nm.size ≤ 9223372036854775807) : Calls Try.prog 64 #[.agg #[.slice A n c, .int .i64 r], .string nm] w (Tr.IPost (pcT l r nm) w) := by
  have hb0 := heap1 w (.cells #[.slice A n c, .int .i64 r] 24)
  have HB0 := Lib.hid hb0
  have HR := Lib.hid (read_any (h.below hb0) c r)
  unfold pcT
  clear h hb0
  generalize eff l r = L at *
  go_enter Try.func64, Try.ntmps64
  go_wp2_with (go_at_call 16; refine HR.out.mono ?_)
  rintro e w1 ⟨A1, n1, c1, O, co, bd, bp, rfl, hP, hC, hb1⟩
  unfold PrV
  have hq := procedure_any hP c1 co nm hn
  unfold PrV at hq
  have HQ := Lib.hid hq
  have HB1 := Lib.hid (bt HB0.out hb1)
  clear HR hP hC hb1 hq
  go_wp2_with (go_at_call 38; refine HQ.out.mono ?_)
  rintro e w3 ⟨rfl, hb3⟩
  have HB3 := Lib.hid (bt HB1.out hb3)
  clear hb3
  go_wp2
  go_ret
  exact ⟨rfl, HB3.out⟩
end
end Go.Proofs.Ytignojhijmamhaa.Ty
