/- PROVED here: part Hd of the claim. No condition but those in each theorem's own head. -/
import Derived.Test.YtedkgofehbecmaaGreatDoorE06
import Derived.Deep.RegionHeld3
import Derived.Deep.DeepCutAuto
import Derived.Deep.CutBlock
namespace Go.Proofs.YtedkgofehbecmaaGreatDoor
open Go Go.RowKit
open Tr (Bx heap1 bt Nds Ints BPost rgB)
theorem toN1 (e : Nat) : ((e : Int) + 1).toNat = e + 1 := by omega
theorem toN2 (e : Nat) : ((e : Int) + 2).toNat = e + 2 := by omega
theorem wrap_sm {e i : Nat} (h : (e : Int) < (i : Int)) (g : i ≤ 20000) : IntKind.i64.wrap ((e : Int) + 1) = (e : Int) + 1 ∧ IntKind.i64.wrap ((e : Int) + 2) = (e : Int) + 2 ∧ 0 ≤ (e : Int) ∧ 0 ≤ (e : Int) + 1 ∧ 0 ≤ (e : Int) + 2 := by
  have t : ∀ x : Int, 0 ≤ x → x < 1000000 → IntKind.i64.wrap x = x := fun x h k => by
    rw [IntKind.wrap_i64]; omega
  exact ⟨t _ (by omega) (by omega), t _ (by omega) (by omega), by omega, by omega, by omega⟩

set_option maxRecDepth 100000 in
set_option maxHeartbeats 8000000 in
theorem flowEntries_any (A : Option Addr) (c n : Nat) (l : List Tr.Nd) (r : Int) (w : World) (hn : n = l.length) (hE : Tk.Errs w) (hN : Nds w A l) (hnum : ∀ x ∈ l, x.n ≤ 9223372036854775807) (hc : Caps w A l) : Calls Tryz.prog 9 #[.agg #[.slice A n c, .int .i64 r]] w (VPost (.bool true) w) := by
  have hb0 := heap1 w (.cells #[.slice A n c, .int .i64 r] 24)
  have HX := Lib.hid (Bx.new w 24 [.slice A n c, .int .i64 r])
  have HB0 := Lib.hid hb0
  have HS := Lib.hid (shown14_any _ (hE.below hb0))
  have HSM := Lib.hid (show ∀ w', Below w.heap.size w w' → Calls Tryz.prog 15 #[.agg #[.slice A n c, .int .i64 r]] w' (SmPost8 l w') from fun w' q => small15_any A n c l r w' (hN.below q) hn)
  have HTT := Lib.hid (show OkT8 l → ∀ w', Below w.heap.size w w' → TT w' A n l from fun h w' q => (TT.mk hN hn (fun x hx => by have := (h.2 x hx).1; omega) (fun x hx => by have := (h.2 x hx).2; omega) hnum hc).below q)
  have HL := Lib.hid hn
  clear hE hN hnum hc hb0 hn
  obtain ⟨W0, hW0⟩ : ∃ W0, w.alloc (.cells #[.slice A n c, .int .i64 r] 24) = W0 := ⟨_, rfl⟩
  rw [hW0] at HX HB0 HS
  go_enter Tryz.func9, Tryz.ntmps9
  go_wp2_with (go_at_call 14; refine HS.out.mono ?_)
  rintro e w1 ⟨rfl, hb1⟩
  have HX1 := Lib.hid (HX.out.below hb1 HX.out.lt)
  have HB1 := Lib.hid (bt HB0.out hb1)
  have a0 := (HX1.out.cell 0).trans rfl
  have a1 := (HX1.out.cell 1).trans rfl
  clear hb1 hW0 HS HX HB0
  go_wp2_with (go_at_call 15; refine (HSM.out _ HB1.out).mono ?_)
  rintro e w2 ⟨hb2, bo, rfl, hok⟩
  have HB2 := Lib.hid (bt HB1.out hb2)
  cases bo with
  | false =>
    clear hb2 hok a0 a1
    go_wp2
    go_ret
    exact ⟨rfl, HB2.out⟩
  | true =>
    have HOK := Lib.hid (hok rfl)
    have HX2 := Lib.hid (HX1.out.below hb2 HX1.out.lt)
    clear hb2 hok a0 a1
    have a0 := (HX2.out.cell 0).trans rfl
    have a1 := (HX2.out.cell 1).trans rfl
    cases hr : okT l r with
    | false =>
      have HBN := Lib.hid (build_no (HTT.out HOK.out _ HB2.out) c r hr)
      clear hr
      go_wp2_with (go_at_call 16; refine HBN.out.mono ?_)
      rintro e w3 ⟨rfl, hb3⟩
      have HE := Lib.hid (bt (bt HB2.out hb3) (heap1 w3 (.cells #[.slice none 0 0, .slice none 0 0] 30)))
      clear hb3 a0 a1
      go_wp2
      go_ret
      exact ⟨rfl, HE.out⟩
    | true =>
      have HBN := Lib.hid (build_yes (HTT.out HOK.out _ HB2.out) c r hr)
      have HR := Lib.hid hr
      obtain ⟨⟨b, hRt⟩, hl4, hrr⟩ := rtn_of (ok_rg hr)
      obtain ⟨R, hRs⟩ : ∃ R, rsF l r n = R := ⟨_, rfl⟩
      rw [hRs] at HBN
      obtain ⟨t, hIs⟩ := gr_is hRt R
      have hself : ∀ q, (Tr.nth l q).kd = 15 → q < l.length → R q = true := fun q hk hq => by
        rw [← hRs]
        exact rsF_self r n q (by rw [HL.out]; exact hq) (by unfold selfB; rw [hk]; rfl)
      have HSF := Lib.hid hself
      obtain ⟨s, hs⟩ : ∃ s, grG l R = s := ⟨_, rfl⟩
      rw [hs] at HBN hIs
      have HIS := Lib.hid hIs
      have HRT := Lib.hid hRt
      have HRS := Lib.hid hRs
      have HPS := Lib.hid hIs.P
      have HPL := Lib.hid (show s.P.length = t.length by rw [hIs.P, List.length_map])
      have hpos : 0 < s.G.length := by
        have h1 := hIs.pos hRt (r := r) (by have := hr; unfold okT chkT at this; rw [ok_rg hr] at this; simpa using this)
        have := hIs.big.1
        omega
      have hbig : s.G.length ≤ 20000 := by have := hIs.big.2; omega
      have HBIG := Lib.hid hbig
      clear hr hRs hIs hs hrr hself hRt hbig
      go_wp2_with (go_at_call 16; refine HBN.out.mono ?_)
      rintro e w3 ⟨v, rfl, V, U, base, rfl, hb3, hbase, hGn, hOw⟩
      obtain ⟨VA, vc, hV⟩ := hGn.slice
      obtain ⟨UA, uc, hU⟩ := own_slice hOw
      subst hV
      subst hU
      obtain ⟨NG, hNG⟩ : ∃ NG, s.G.length = NG := ⟨_, rfl⟩
      obtain ⟨NP, hNP⟩ : ∃ NP, s.P.length = NP := ⟨_, rfl⟩
      rw [hNG, hNP]
      have hbx := heap1 w3 (.cells #[.slice VA NG vc, .slice UA NP uc] 30)
      have HX3 := Lib.hid (HX2.out.below (bt hb3 hbx) HX2.out.lt)
      have HG3 := Lib.hid (Bx.new w3 30 [.slice VA NG vc, .slice UA NP uc])
      have HB3 := Lib.hid (bt (bt HB2.out hb3) hbx)
      have HGn := Lib.hid (hGn.move (E := fun _ => False) (X' := fun _ => False) (Fr.of hbx) (fun _ _ => id) (fun _ _ _ _ _ => ⟨id, id⟩))
      have HIN := Lib.hid ((own_intsP hOw).below hbx)
      have HNG := Lib.hid (And.intro hNG hNP)
      obtain ⟨z3, hz3⟩ : ∃ z3, w3.heap.size = z3 := ⟨_, rfl⟩
      obtain ⟨W3, hW3⟩ : ∃ W3, w3.alloc (.cells #[.slice VA NG vc, .slice UA NP uc] 30) = W3 := ⟨_, rfl⟩
      rw [hW3] at HX3 HG3 HB3 HGn HIN
      rw [hz3] at HG3
      clear hb3 hbase hGn hOw hbx hNG hNP a0 a1 HBN HX1 HX2 HB1 HB2
      obtain ⟨gb, cap, hVA, hgb, hcp, hcm, hGR⟩ := HGn.out.gr hpos
      have hVA2 : VA = some ⟨gb, 0, none⟩ := by injection hVA
      have hvc : vc = cap := by injection hVA
      subst hVA2
      subst hvc
      have HGR := Lib.hid hGR
      clear hVA hgb hcp hcm hGR hpos
      have hn4 : n ≤ 4000 := by rw [HL.out]; exact hl4
      have hng : NG ≤ 20000 := by rw [← HNG.out.1]; exact HBIG.out
      have hnp : NP ≤ 4000 := by rw [← HNG.out.2, HPL.out]; have := HIS.out.bnd; omega
      have HGB := Lib.hid (fun (W : World) (q : Below W3.heap.size W3 W) => show W.cell? ⟨z3, 0, none⟩ = some (.slice (some ⟨gb, 0, none⟩) NG vc) ∧ W.cell? ⟨z3, 1, none⟩ = some (.slice UA NP uc) from ⟨((HG3.out.below q HG3.out.lt).cell 0).trans rfl, ((HG3.out.below q HG3.out.lt).cell 1).trans rfl⟩)
      go_upto_region 8 with (fail)
      obtain ⟨g0, g1⟩ := HGB.out _ (Below.refl _ _)
      go_wp2
      go_loopg [7] NG (fun k v7 wr => ∃ i : Nat, i + k = NG ∧ v7 = .int .i64 (i : Int) ∧ Below W3.heap.size W3 wr)
      case atStart => exact ⟨0, Nat.zero_add _, rfl, Below.refl _ _⟩
      case round =>
        obtain ⟨i, hi, rfl, hb⟩ := hrel
        obtain ⟨W4, rfl⟩ : ∃ W4, W4 = wr := ⟨_, rfl⟩
        have HB4 := Lib.hid hb
        have HGK := Lib.hid hi
        clear g0 g1
        obtain ⟨g0, g1⟩ := HGB.out _ hb
        by_cases hlt : i < NG
        · have hiz : (i : Int) < (NG : Int) := by omega
          have hil : i < s.G.length := by rw [HNG.out.1]; exact hlt
          obtain ⟨hA1, hA2, hA3⟩ := HIS.out.aft HSF.out (fun p hp => Nat.le_of_lt (HIS.out.ok _ (List.getElem_mem hp)).1) hil
          have hal := aft_len (s.G[i]'hil)
          have haf := after_in (HGR.out.below hb) vc UA NP uc hil (by omega)
          rw [HNG.out.1] at haf
          have HAF := Lib.hid haf
          obtain ⟨ts, hts⟩ : ∃ ts, aftL (s.G[i]'hil) = ts := ⟨_, rfl⟩
          rw [hts] at HAF hA1 hA2 hal
          have HA1 := Lib.hid hA1
          have HA2 := Lib.hid hA2
          obtain ⟨K5, c5, y0, y1, y2, y3, y4, hk5⟩ := HGR.out.nd hil
          have HYY := Lib.hid (fun (W : World) (q : Below W3.heap.size W3 W) => show W.cell? ⟨gb, i * 5, none⟩ = some (.int .i64 (s.G[i]'hil).kd) ∧ W.cell? ⟨gb, i * 5 + 1, none⟩ = some (.int .i64 (s.G[i]'hil).pl) ∧ W.cell? ⟨gb, i * 5 + 2, none⟩ = some (.int .i64 (s.G[i]'hil).pr) ∧ W.cell? ⟨gb, i * 5 + 3, none⟩ = some (.slice K5 (s.G[i]'hil).nx.length c5) ∧ W.cell? ⟨gb, i * 5 + 4, none⟩ = some (.int .i64 (s.G[i]'hil).rs) from
            ⟨(q.cell (p := ⟨gb, i * 5, none⟩) HGR.out.lt).trans y0, (q.cell (p := ⟨gb, i * 5 + 1, none⟩) HGR.out.lt).trans y1, (q.cell (p := ⟨gb, i * 5 + 2, none⟩) HGR.out.lt).trans y2, (q.cell (p := ⟨gb, i * 5 + 3, none⟩) HGR.out.lt).trans y3, (q.cell (p := ⟨gb, i * 5 + 4, none⟩) HGR.out.lt).trans y4⟩)
          have HKK := Lib.hid (fun (j : Nat) (hj : j < s.G.length) (W : World) (q : Below W3.heap.size W3 W) => show W.cell? ⟨gb, j * 5, none⟩ = some (.int .i64 (s.G[j]'hj).kd) from by
            obtain ⟨K6, c6, z0, _⟩ := HGR.out.nd hj
            exact (q.cell (p := ⟨gb, j * 5, none⟩) HGR.out.lt).trans z0)
          generalize (s.G[i]'hil).kd = kg at *
          generalize (s.G[i]'hil).rs = rs at *
          generalize (s.G[i]'hil).pl = pl at *
          generalize (s.G[i]'hil).pr = pr at *
          generalize (s.G[i]'hil).nx.length = ln at *
          obtain ⟨m, hm⟩ : ∃ m, ts.length = m := ⟨_, rfl⟩
          have hm4 : m ≤ 4 := by omega
          have HM := Lib.hid hm
          clear haf hts hA1 hA2 hA3 hal y0 y1 y2 y3 y4 hk5 hi hb hil
          go_upto_region 12 with (go_at_call 27; refine HAF.out.mono ?_; rintro e w5 ⟨AA, ca, rfl, hI5, hb5⟩)
          have HB5 := Lib.hid (bt HB4.out hb5)
          have HI5 := Lib.hid hI5
          clear hI5 hb5 g0 g1 hm
          go_wp2
          go_loopg [9] m (fun k v9 wr => ∃ j : Nat, j + k = m ∧ v9 = .int .i64 (j : Int) ∧ Below w5.heap.size w5 wr)
          case atStart => exact ⟨0, Nat.zero_add _, rfl, Below.refl _ _⟩
          case round =>
            obtain ⟨j, hj, rfl, hb6⟩ := hrel
            obtain ⟨W6, rfl⟩ : ∃ W6, W6 = wr := ⟨_, rfl⟩
            have HB6 := Lib.hid (bt HB5.out hb6)
            have HB56 := Lib.hid hb6
            have HJK := Lib.hid hj
            obtain ⟨g0, g1⟩ := HGB.out _ HB6.out
            by_cases hjl : j < m
            · have hjz : (j : Int) < (m : Int) := by omega
              have hjt : j < ts.length := by rw [HM.out]; exact hjl
              obtain ⟨ba, oa, rfl, hla, hca⟩ := HI5.out (by omega)
              have y := (hb6.cell (p := ⟨ba, oa + j, none⟩) hla).trans (hca j hjt)
              obtain ⟨k2, hk2, hk3, hk4, -⟩ := HA1.out _ (List.getElem_mem hjt)
              rw [hk2] at y
              have hk5 : (k2 : Int) < (NG : Int) := by have := HNG.out.1; omega
              have x0 := HKK.out k2 hk3 _ HB6.out
              have hne : ((s.G[k2]'hk3).kd == 1) = false := beq_eq_false_iff_ne.2 hk4
              generalize (s.G[k2]'hk3).kd = kk at *
              clear hk4 hca hla hk2 hj hb6
              go_upto_region 15 with (fail)
              go_quiet (fail)
              go_wp2
              go_roundg (m - (j + 1))
              case measure => have := HJK.out; omega
              case rel => exact ⟨j + 1, by omega, by go_num, Tk.below_drewN HB56.out _⟩
            · obtain rfl : j = m := by omega
              have hjz : ¬ (j : Int) < (j : Int) := by omega
              obtain ⟨y0, y1, y2, y3, y4⟩ := HYY.out _ HB6.out
              have HA2' := HA2.out
              have h0 : decide (ts = []) = ((j : Int) == 0) := by
                have := HM.out
                cases ts with
                | nil => simp at this; subst this; rfl
                | cons a r => simp at this; subst this; simp; omega
              rw [h0] at HA2'
              have HE := Lib.hid (bt HB6.out (heap1 W6 (.cells #[.int .i64 kg, .int .i64 pl, .int .i64 pr, .slice K5 ln c5, .int .i64 rs] 42)))
              clear hj hb6 h0
              by_cases hj0 : j = 0
              · subst hj0
                by_cases h2 : kg = 2
                · subst h2
                  clear HA2'
                  go_wp2
                  go_roundg (NG - (i + 1))
                  case measure => have := HGK.out; omega
                  case rel => exact ⟨i + 1, by omega, by go_num, HE.out⟩
                · have e2 : (kg == 2) = false := beq_eq_false_iff_ne.2 h2
                  rw [e2] at HA2'
                  have e3 : (kg == 3) = true := by simpa using HA2'
                  have h3 : kg = 3 := by simpa using e3
                  subst h3
                  clear HA2' e2 e3 h2
                  go_wp2
                  go_roundg (NG - (i + 1))
                  case measure => have := HGK.out; omega
                  case rel => exact ⟨i + 1, by omega, by go_num, HE.out⟩
              · have hz : ((j : Int) == 0) = false := beq_eq_false_iff_ne.2 (by omega)
                rw [hz] at HA2'
                simp only [Bool.or_eq_false_iff] at HA2'
                obtain ⟨e2, e3⟩ := HA2'
                go_wp2
                go_roundg (NG - (i + 1))
                case measure => have := HGK.out; omega
                case rel => exact ⟨i + 1, by omega, by go_num, HE.out⟩
        · obtain rfl : i = NG := by omega
          have hiz : ¬ (i : Int) < (i : Int) := by omega
          clear hlt hi hb
          go_wp2
          go_loopg [11] NP (fun k v11 wr => ∃ p : Nat, p + k = NP ∧ v11 = .int .i64 (p : Int) ∧ Below W4.heap.size W4 wr)
          case atStart => exact ⟨0, Nat.zero_add _, rfl, Below.refl _ _⟩
          case round =>
            obtain ⟨p, hp, rfl, hb6⟩ := hrel
            obtain ⟨W6, rfl⟩ : ∃ W6, W6 = wr := ⟨_, rfl⟩
            have HB6 := Lib.hid (bt HB4.out hb6)
            have HB46 := Lib.hid hb6
            have HPK := Lib.hid hp
            clear g0 g1
            obtain ⟨g0, g1⟩ := HGB.out _ HB6.out
            by_cases hpl : p < NP
            · have hpz : (p : Int) < (NP : Int) := by omega
              have hpt : p < t.length := by rw [← HPL.out, HNG.out.2]; exact hpl
              have ho := offG_succ (l := l) hpt
              have hle := offG_le (l := l) (t := t) (p := p) (q := t.length) hpt (Nat.le_refl _)
              rw [← HIS.out.len, HNG.out.1] at hle
              have hsg := HIS.out.seg p hpt
              have hE0 := HIS.out.ends hpt (c := 0) (by omega)
              have hE1 := HIS.out.ends hpt (c := 1) (by omega)
              have hE2 := HIS.out.ends hpt (c := 2) (by omega)
              obtain ⟨e0, he0⟩ : ∃ e0, offG l t p = e0 := ⟨_, rfl⟩
              rw [he0] at hE0 hE1 hE2 hsg ho
              have hn0 : (e0 : Int) < (i : Int) := by omega
              have hn1 : (e0 : Int) + 1 < (i : Int) := by omega
              have hn2 : (e0 : Int) + 2 < (i : Int) := by omega
              obtain ⟨hw1, hw2, hz0, hz1, hz2⟩ := wrap_sm hn0 hng
              obtain ⟨⟨ke, k0, -⟩, k1, k2, -⟩ := hsg
              have hnode : ∀ (q : Nat) (x : Gn), s.G[q]? = some x → ∀ (W : World), Below W3.heap.size W3 W → W.cell? ⟨gb, q * 5 + 2, none⟩ = some (.int .i64 x.pr) := fun q x hx W hW => by
                obtain ⟨hq, rfl⟩ := List.getElem?_eq_some_iff.1 hx
                obtain ⟨K6, c6, _, _, z2, _⟩ := HGR.out.nd hq
                exact (hW.cell (p := ⟨gb, q * 5 + 2, none⟩) HGR.out.lt).trans z2
              have HC0 := Lib.hid (fun (W : World) (q : Below W6.heap.size W6 W) => show Calls Tryz.prog 21 #[.agg #[.slice (some ⟨gb, 0, none⟩) i vc, .slice UA NP uc], .int .i64 (p : Int)] W (VPost (.int .i64 (e0 : Int)) W) from by
                have t := entry_any (HGR.out.below (bt HB6.out q)) (by have := HBIG.out; omega) vc UA NP uc (p : Int)
                rw [HNG.out.1] at t
                rw [show ixF (fun x : Gn => x.kd == 1 && x.pr == (p : Int)) s.G 0 = (e0 : Int) from hE0] at t
                exact t)
              have HC1 := Lib.hid (fun (W : World) (q : Below W6.heap.size W6 W) => show Calls Tryz.prog 23 #[.agg #[.slice (some ⟨gb, 0, none⟩) i vc, .slice UA NP uc], .int .i64 (p : Int)] W (VPost (.int .i64 (IntKind.i64.wrap ((e0 : Int) + 1))) W) from by
                rw [hw1]
                have t := exit_any (HGR.out.below (bt HB6.out q)) (by have := HBIG.out; omega) vc UA NP uc (p : Int)
                rw [HNG.out.1] at t
                rw [show ixF (fun x : Gn => x.kd == 2 && x.pr == (p : Int)) s.G 0 = (e0 : Int) + 1 from hE1] at t
                exact t)
              have HC2 := Lib.hid (fun (W : World) (q : Below W6.heap.size W6 W) => show Calls Tryz.prog 24 #[.agg #[.slice (some ⟨gb, 0, none⟩) i vc, .slice UA NP uc], .int .i64 (p : Int)] W (VPost (.int .i64 (IntKind.i64.wrap ((e0 : Int) + 2))) W) from by
                rw [hw2]
                have t := fail_any (HGR.out.below (bt HB6.out q)) (by have := HBIG.out; omega) vc UA NP uc (p : Int)
                rw [HNG.out.1] at t
                rw [show ixF (fun x : Gn => x.kd == 3 && x.pr == (p : Int)) s.G 0 = (e0 : Int) + 2 from hE2] at t
                exact t)
              have f0 : ∀ w', Below W6.heap.size W6 w' → w'.cell? ⟨gb, e0 * 5 + 2, none⟩ = some (.int .i64 (p : Int)) := fun w' q => hnode _ _ k0 w' (bt HB6.out q)
              have f1 : ∀ w', Below W6.heap.size W6 w' → w'.cell? ⟨gb, (e0 + 1) * 5 + 2, none⟩ = some (.int .i64 (p : Int)) := fun w' q => hnode _ _ k1 w' (bt HB6.out q)
              have f2 : ∀ w', Below W6.heap.size W6 w' → w'.cell? ⟨gb, (e0 + 2) * 5 + 2, none⟩ = some (.int .i64 (p : Int)) := fun w' q => hnode _ _ k2 w' (bt HB6.out q)
              have f5 : ∀ w', Below W6.heap.size W6 w' → w'.cell? ⟨gb, (IntKind.i64.wrap ((e0 : Int) + 1)).toNat * 5 + 2, none⟩ = some (.int .i64 (p : Int)) := fun w' q => by rw [hw1, toN1]; exact f1 w' q
              have f6 : ∀ w', Below W6.heap.size W6 w' → w'.cell? ⟨gb, (IntKind.i64.wrap ((e0 : Int) + 2)).toNat * 5 + 2, none⟩ = some (.int .i64 (p : Int)) := fun w' q => by rw [hw2, toN2]; exact f2 w' q
              have f3 : ∀ w', Below W6.heap.size W6 w' → w'.cell? ⟨z3, 0, none⟩ = some (.slice (some ⟨gb, 0, none⟩) i vc) := fun w' q => (HGB.out _ (bt HB6.out q)).1
              have f4 : ∀ w', Below W6.heap.size W6 w' → w'.cell? ⟨z3, 1, none⟩ = some (.slice UA NP uc) := fun w' q => (HGB.out _ (bt HB6.out q)).2
              rw [← hw1] at hz1 hn1
              rw [← hw2] at hz2 hn2
              clear hw1 hw2 f1 f2
              clear ho hle hE0 hE1 hE2 he0 k0 k1 k2 hnode hpt hp hb6
              go_upto_region 23 with (fail)
              clear g0 g1
              go_cut [132] (fun x wx => x = .bool false ∧ Below W6.heap.size W6 wx)
              case first =>
                go_region_held3 (fun w' => Below W6.heap.size W6 w') (first | exact bdrew (heap1 _ _) | exact bdrew (Fl.realloc (by assumption) (Nat.le_refl _)) | exact (Below.refl _ _).drew | exact bt (by assumption) (by assumption) | go_keep)
                  ((first | (go_at_call 21; refine (HC0.out _ (by assumption)).mono ?_; rintro e w7 ⟨rfl, hb7⟩) | (go_at_call 23; refine (HC1.out _ (by assumption)).mono ?_; rintro e w8 ⟨rfl, hb8⟩) | (go_at_call 24; refine (HC2.out _ (by assumption)).mono ?_; rintro e w9 ⟨rfl, hb9⟩)))
                all_goals (go_wp2_with fail; go_meet; exact ⟨rfl, by assumption⟩)
              case rest =>
                obtain ⟨rfl, hb7⟩ := hcut
                have HB7 := Lib.hid (HB46.out.trans (hb7.mono HB46.out.size))
                clear hb7
                go_wp2
                go_roundg (NP - (p + 1))
                case measure => have := HPK.out; omega
                case rel => exact ⟨p + 1, by omega, by go_num, HB7.out⟩
            · obtain rfl : p = NP := by omega
              have hpz : ¬ (p : Int) < (p : Int) := by omega
              have HE := Lib.hid (bt HB3.out HB6.out)
              clear hp hb6
              go_wp2
              go_ret
              exact ⟨rfl, HE.out⟩
end Go.Proofs.YtedkgofehbecmaaGreatDoor
