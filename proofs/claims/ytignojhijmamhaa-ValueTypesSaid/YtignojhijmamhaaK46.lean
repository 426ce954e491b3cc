/- PROVED here: parts TyCx Wb of the claim. No condition but those in each theorem's own head. -/
import Derived.Test.YtignojhijmamhaaK27
import Derived.Test.YtignojhijmamhaaK45
namespace Go.Proofs.Ytignojhijmamhaa.Ty
open Go Go.RowKit
open Tr (Bx heap1 bt Nds Ints VPost BPost rgB)
def OkT7 (l : List Tr.Nd) : Prop := l.length ≤ 300 ∧ ∀ x ∈ l, x.ks.length ≤ 300 ∧ x.tx.size ≤ 200
def SmPost7 (l : List Tr.Nd) (w : World) (e : Ending) (w' : World) : Prop := Below w.heap.size w w' ∧ ∃ b, e = .returned (.bool b) ∧ (b = true → OkT7 l)
set_option maxRecDepth 100000 in
set_option maxHeartbeats 1500000 in
theorem small35t_any (A : Option Addr) (n c : Nat) (l : List Tr.Nd) (r : Int) (w : World) (hN : Nds w A l) (hn : n = l.length) : Calls Try.prog 5 #[.agg #[.slice A n c, .int .i64 r]] w (SmPost7 l w) := by
  have hb0 := heap1 w (.cells #[.slice A n c, .int .i64 r] 24)
  have HNN := Lib.hid (hN.below hb0)
  have HB := Lib.hid hb0
  have HN := Lib.hid hn
  clear hN hn hb0
  by_cases h4 : (300 : Int) < (n : Int)
  · have hd4 : decide ((300 : Int) < (n : Int)) = true := decide_eq_true h4
    go_enter Try.func5, Try.ntmps5
    go_wp2
    go_ret
    exact ⟨HB.out, false, rfl, fun h => by cases h⟩
  · have hd4 : decide ((300 : Int) < (n : Int)) = false := decide_eq_false h4
    go_enter Try.func5, Try.ntmps5
    go_wp2
    go_loop [3] (fun i => ∃ k : Nat, k ≤ n ∧ i = .int .i64 (k : Int) ∧ ∀ x ∈ l.take k, x.ks.length ≤ 300 ∧ x.tx.size ≤ 200) (fun i => n - (intOf i).toNat)
    case atStart => exact ⟨0, Nat.zero_le _, rfl, fun t ht => by simp at ht⟩
    case round =>
      obtain ⟨k, hk, rfl, hok2⟩ := hrel
      have HOK2 := Lib.hid hok2
      clear hok2
      by_cases hkl : k < n
      · have hkz : (k : Int) < (n : Int) := by omega
        have hkt : k < l.length := by rw [← HN.out]; exact hkl
        obtain ⟨bN, oN, rfl, hbN, hcN⟩ := HNN.out (by omega)
        obtain ⟨K2, c2, _, _, _, c3, c4, _⟩ := hcN k hkt
        have HXX := Lib.hid (show l.take (k + 1) = l.take k ++ [l[k]] from List.take_succ_eq_append_getElem hkt)
        clear hcN
        generalize l[k] = x at *
        obtain ⟨kd, nn, pl, tx, ks⟩ := x
        dsimp only at c3 c4
        generalize hq : ks.length = q at *
        have HQ := Lib.hid hq
        clear hq
        by_cases h1 : (300 : Int) < (q : Int)
        · have hd1 : decide ((300 : Int) < (q : Int)) = true := decide_eq_true h1
          go_wp2
          go_ret
          exact ⟨HB.out, false, rfl, fun h => by cases h⟩
        · have hd1 : decide ((300 : Int) < (q : Int)) = false := decide_eq_false h1
          by_cases h2 : (200 : Int) < (tx.size : Int)
          · have hd2 : decide ((200 : Int) < (tx.size : Int)) = true := decide_eq_true h2
            go_wp2
            go_ret
            exact ⟨HB.out, false, rfl, fun h => by cases h⟩
          · have hd2 : decide ((200 : Int) < (tx.size : Int)) = false := decide_eq_false h2
            go_wp2
            go_round
            case rel =>
              refine ⟨k + 1, by omega, by go_num, ?_⟩
              rw [HXX.out]
              intro x hx
              rcases List.mem_append.1 hx with hx | hx
              · exact HOK2.out x hx
              · simp at hx; subst hx; exact ⟨by show ks.length ≤ 300; rw [HQ.out]; omega, by show tx.size ≤ 200; omega⟩
            case measure => simp [intOf]; omega
      · obtain rfl : k = n := by omega
        have hkz : ¬ (k : Int) < (k : Int) := by omega
        go_wp2
        go_ret
        refine ⟨HB.out, true, rfl, fun _ => ⟨by rw [← HN.out]; omega, ?_⟩⟩
        have h5 := HOK2.out
        rw [List.take_of_length_le (by rw [← HN.out]; omega)] at h5
        exact h5
end Go.Proofs.Ytignojhijmamhaa.Ty
namespace Go.Proofs.Ytignojhijmamhaa
open Go Go.RowKit Go.Sort
open Va (ap hpu h_one Bx heap1 bt VP VI str_eq str_ne below2 Hp C46 bcell3 realloc own_below newV newH)
open Ty (TT tpT lkT chkT typA vrT dnA ndA decB optZ eff TW OkT7 SmPost7)
open Ty.Tr (Nd Ints rgB VPost)
theorem evA_ty {l : List Nd} {r : Int} {L : List (List Int)} (hc : (chkT l r).2 = 0) (hr : rgB l r = true) {i : Nat} (hi : i < l.length) (sd : List Int) (ht : tpT l r (i : Int) ≠ 0) :
    ((evA l r (wL l i sd l.length) L (i : Int)).2 = 0 → (evA l r (wL l i sd l.length) L (i : Int)).1.1 = tpT l r (i : Int)) ∧ ErrOk (evA l r (wL l i sd l.length) L (i : Int)) := by
  have he := Ty.eff_yes hr
  have hty : tpT l r (i : Int) = typA l i := by unfold tpT; rw [he, if_pos ⟨by omega, by omega⟩, Int.toNat_natCast]
  rw [hty] at ht ⊢
  have hk : 20 ≤ (ndA l (i : Int)).kd ∧ (ndA l (i : Int)).kd ≤ 27 := by
    apply Classical.byContradiction
    intro q
    apply ht
    unfold typA
    rw [if_neg (by omega), if_neg (by omega), if_neg (by omega), if_neg (by omega), if_neg (by omega)]
  have hev : evA l r (wL l i sd l.length) L (i : Int) = evV l r (wL l i sd l.length) L l.length i := by
    unfold evA
    rw [Int.toNat_natCast, nth_nd hi, hc, if_pos ⟨by omega, by omega, hk.1, hk.2, rfl⟩]
  rw [hev]
  obtain ⟨f, hf⟩ : ∃ f, l.length = f + 1 := ⟨l.length - 1, by omega⟩
  refine ⟨fun h0 => ?_, evV_ok _ _⟩
  rw [hf] at h0 ⊢
  exact evV_kind hi he (by rw [← hf]; exact nsOk_w i sd) hk.1 hk.2 h0
theorem newV3 : newV [] 3 = ((3, 1), 0, true) := rfl
set_option maxRecDepth 100000 in
set_option maxHeartbeats 8000000 in
theorem valueTypes_w (A : Option Addr) (c n : Nat) (l : List Nd) (r : Int) (SA : Option Addr) (sc : Nat) (sd : List Int) (w : World) (hW : TW w A n l) (hS : Ints w SA sd) : Calls Try.prog 3 #[.agg #[.slice A n c, .int .i64 r], .slice SA sd.length sc] w (VPost (.bool true) w) := by
  have hb0 := heap1 w (.cells #[.slice A n c, .int .i64 r] 24)
  have HX := Lib.hid (Bx.new w 24 [.slice A n c, .int .i64 r])
  have HB0 := Lib.hid hb0
  have HSM := Lib.hid (show ∀ w', Below w.heap.size w w' → Calls Try.prog 5 #[.agg #[.slice A n c, .int .i64 r]] w' (SmPost7 l w') from fun w' q => Ty.small35t_any A n c l r w' (hW.nds.below q) hW.len)
  have HCK := Lib.hid (fun (W : World) (b : Below w.heap.size w W) => Ty.check_wide (hW.below b) c r)
  have HTW := Lib.hid hW
  have HLN := Lib.hid hW.len
  have HSS := Lib.hid hS
  obtain ⟨m, hm⟩ : ∃ m, sd.length = m := ⟨_, rfl⟩
  rw [hm]
  have HM := Lib.hid hm
  clear hW hS hb0 hm
  obtain ⟨W0, hW0⟩ : ∃ W0, w.alloc (.cells #[.slice A n c, .int .i64 r] 24) = W0 := ⟨_, rfl⟩
  rw [hW0] at HX HB0
  have HS := Lib.hid (Va.shown_any W0)
  go_enter Try.func3, Try.ntmps3
  go_wp2_with (go_at_call 4; refine HS.out.mono ?_)
  rintro e w1 ⟨rfl, hb1⟩
  have HX1 := Lib.hid (HX.out.below hb1 HX.out.lt)
  have HB1 := Lib.hid (bt HB0.out hb1)
  have a0 := (HX1.out.cell 0).trans rfl
  have a1 := (HX1.out.cell 1).trans rfl
  clear hb1 hW0 HS HX HB0
  go_wp2_with (go_at_call 5; refine (HSM.out _ HB1.out).mono ?_)
  rintro e w2 ⟨hb2, bo, rfl, hok⟩
  have HB2 := Lib.hid (bt HB1.out hb2)
  have HX2 := Lib.hid (HX1.out.below hb2 HX1.out.lt)
  have HOK := Lib.hid hok
  clear hb2 hok a0 a1 HX1
  have a0 := (HX2.out.cell 0).trans rfl
  have a1 := (HX2.out.cell 1).trans rfl
  have HC := Lib.hid (HCK.out w2 HB2.out)
  obtain ⟨⟨q1, q2⟩, hq⟩ : ∃ R, chkT l r = R := ⟨_, rfl⟩
  rw [hq] at HC
  dsimp only at HC
  have HQ := Lib.hid hq
  clear hq
  go_wp2_with (go_at_call 6; refine HC.out.mono ?_)
  rintro e w3 ⟨rfl, hb3⟩
  have HB3 := Lib.hid (bt HB2.out hb3)
  have HX3 := Lib.hid (HX2.out.below hb3 HX2.out.lt)
  clear hb3 a0 a1
  cases bo with
  | false =>
    go_wp2
    go_ret
    exact ⟨rfl, HB3.out⟩
  | true =>
    by_cases hq2 : q2 = 0
    · subst hq2
      by_cases h60 : 60 < (m : Int)
      · have hd1 : decide (60 < (m : Int)) = true := decide_eq_true h60
        go_wp2
        go_ret
        exact ⟨rfl, HB3.out⟩
      have hd1 : decide (60 < (m : Int)) = false := decide_eq_false h60
      have hrg : rgB l r = true := by
        cases hr : rgB l r with
        | true => rfl
        | false => have := HQ.out; unfold chkT at this; rw [hr] at this; simp at this
      have HRG := Lib.hid hrg
      have HTT := Lib.hid (HTW.out.tt hrg)
      have hln : n ≤ 300 := by have := (HOK.out rfl).1; have := HLN.out; omega
      have HH0 := Lib.hid (Hp.new46 w3 w3.heap.size (Nat.le_refl _))
      have HNW := Lib.hid (Va.new_any HH0.out 3)
      unfold Va.NewP at HNW
      rw [newV3] at HNW
      dsimp only at HNW
      have HM60 := Lib.hid h60
      clear hrg h60
      go_wp2_with (go_at_call 7; refine HNW.out.mono ?_)
      rintro e w4 ⟨rfl, v', vs', hH, hF, hG⟩
      have hb4 : Below w3.heap.size w3 w4 := (heap1 w3 (.cells #[.slice none 0 0, .int .i64 0] 39)).trans (hF.to_below (by simp) (fun x hx => HH0.out.foot hx))
      have hb5 : Below w3.heap.size w3 (w4.alloc (.cells #[.int .i64 3, .int .i64 1] 41)) := hb4.alloc hb4.size _
      have hXA := Bx.new w4 41 [.int .i64 3, .int .i64 1]
      have hH5 := hH.below (heap1 w4 (.cells #[.int .i64 3, .int .i64 1] 41))
      generalize newH [] 3 = L at *
      go_upto_region 8 with (fail)
      obtain ⟨W5, hW5⟩ : ∃ W5, w4.alloc (.cells #[.int .i64 3, .int .i64 1] 41) = W5 := ⟨_, rfl⟩
      rw [hW5] at hb5 hH5 ⊢
      have HXA := Lib.hid (show Bx W5 w4.heap.size 41 [.int .i64 3, .int .i64 1] by rw [← hW5]; exact hXA)
      have HB5 := Lib.hid (bt HB3.out hb5)
      have HHP := Lib.hid hH5
      have HX5 := Lib.hid (HX3.out.below hb5 HX3.out.lt)
      generalize w4.heap.size = t10 at *
      clear hb4 hb5 hXA hH hH5 hF hG hW5 hd1
      have HWO := Lib.hid (fun (W : World) (q : Below W5.heap.size W5 W) (p : Nat) (hp : p < l.length) => worth_any (HTT.out.below (bt HB5.out q)) c r HRG.out p hp SA sc sd (HSS.out.below (bt HB5.out q)) (by have := HM60.out; have := HM.out; omega))
      have HEV := Lib.hid (fun (W : World) (q : Below W5.heap.size W5 W) (B : Option Addr) (ns : List NV) (hN : Nms W B ns) (hl : ns.length ≤ 4000) (d : Nat) (z : Int) => Eval_any (Sc.mk (HTT.out.below (bt HB5.out q)) hN hl (HHP.out.below q)) c d r z)
      have HTY := Lib.hid (fun (W : World) (q : Below W5.heap.size W5 W) (z : Int) => Ty.type_any (HTT.out.below (bt HB5.out q)) c r z)
      rw [HM.out] at HWO
      go_wp2
      go_loopg [13] n (fun k v13 wr => ∃ i : Nat, i + k = n ∧ v13 = .int .i64 (i : Int) ∧ Below W5.heap.size W5 wr)
      case atStart => exact ⟨0, Nat.zero_add _, rfl, Below.refl _ _⟩
      case round =>
        obtain ⟨i, hi, rfl, hb⟩ := hrel
        obtain ⟨W6, rfl⟩ : ∃ W6, W6 = wr := ⟨_, rfl⟩
        have HGK := Lib.hid hi
        have HX6 := Lib.hid (HX5.out.below hb HX5.out.lt)
        have a0 := (HX6.out.cell 0).trans rfl
        have a1 := (HX6.out.cell 1).trans rfl
        have HBW := Lib.hid hb
        by_cases hlt : i < n
        · have hiz : (i : Int) < (n : Int) := by omega
          have hil : i < l.length := by rw [← HLN.out]; exact hlt
          have HLT := Lib.hid hlt
          have HC8 := Lib.hid (HTY.out W6 hb (i : Int))
          obtain ⟨ty, hty⟩ : ∃ ty, tpT l r (i : Int) = ty := ⟨_, rfl⟩
          rw [hty] at HC8
          have HTP := Lib.hid hty
          have HIL := Lib.hid hil
          clear hb hi hty hil hlt
          go_wp2_with (go_at_call 8; refine HC8.out.mono ?_)
          rintro e w7 ⟨rfl, hb7⟩
          have HB7 := Lib.hid (bt HBW.out hb7)
          have HX7 := Lib.hid (HX6.out.below hb7 HX6.out.lt)
          clear hb7 a0 a1
          by_cases h0 : ty = 0
          · subst h0
            go_wp2
            go_roundg (n - (i + 1))
            case measure => have := HLT.out; have := HGK.out; omega
            case rel => exact ⟨i + 1, by have := HLT.out; omega, by go_num, HB7.out⟩
          · have hne : (ty == 0) = false := beq_eq_false_iff_ne.2 h0
            have hcc : (chkT l r).2 = 0 := by rw [HQ.out]
            have hev := evA_ty (L := L) hcc HRG.out HIL.out sd (by rw [HTP.out]; exact h0)
            rw [HTP.out] at hev
            have HWO1 := Lib.hid (fun W q => HWO.out W q i HIL.out)
            have HEV1 := Lib.hid (fun (W : World) (q : Below W5.heap.size W5 W) (B : Option Addr) (hN : Nms W B (wL l i sd l.length)) (d : Nat) => HEV.out W q B _ hN (by have := wL_len (l := l) i sd l.length; have := HLN.out; omega) d (i : Int))
            unfold WoP at HWO1
            obtain ⟨ns, hns⟩ : ∃ ns, wL l i sd l.length = ns := ⟨_, rfl⟩
            rw [hns] at hev HWO1 HEV1
            obtain ⟨⟨⟨y1, y2⟩, e0⟩, hy⟩ : ∃ R, evA l r ns L (i : Int) = R := ⟨_, rfl⟩
            rw [hy] at hev HEV1
            dsimp only at hev HEV1
            obtain ⟨nl, hnl⟩ : ∃ nl, ns.length = nl := ⟨_, rfl⟩
            rw [hnl] at HWO1 HEV1
            have HY := Lib.hid hev
            clear hns hy hev hcc h0 hnl
            go_upto_region 13 with (fail)
            clear hne
            go_cut [15, 16] from 49 to 97 (fun x y wx => ∃ gg : Nat, x = .pointer (some ⟨gg, 0, none⟩) ∧ y = .int .i64 e0 ∧ Below w7.heap.size w7 wx ∧ gg < wx.heap.size ∧ wx.cell? ⟨gg, 0, none⟩ = some (.int .i64 y1) ∧ wx.cell? ⟨gg, 1, none⟩ = some (.int .i64 y2))
            case first =>
              have l0 : ∀ w', Below w7.heap.size w7 w' → w'.cell? ⟨w.heap.size, 0, none⟩ = some (.slice A n c) := fun w' q => ((HX7.out.below q HX7.out.lt).cell 0).trans rfl
              have l1 : ∀ w', Below w7.heap.size w7 w' → w'.cell? ⟨w.heap.size, 1, none⟩ = some (.int .i64 r) := fun w' q => ((HX7.out.below q HX7.out.lt).cell 1).trans rfl
              have l2 : ∀ w', Below w7.heap.size w7 w' → w'.cell? ⟨t10, 0, none⟩ = some (.int .i64 3) := fun w' q => ((HXA.out.below (bt HB7.out q) HXA.out.lt).cell 0).trans rfl
              have l3 : ∀ w', Below w7.heap.size w7 w' → w'.cell? ⟨t10, 1, none⟩ = some (.int .i64 1) := fun w' q => ((HXA.out.below (bt HB7.out q) HXA.out.lt).cell 1).trans rfl
              go_region_held3 (fun w' => Below w7.heap.size w7 w') (first | exact (Below.refl _ _).drew | exact bt (by assumption) (by assumption) | exact realloc (by assumption) (by assumption) | exact below2 (by assumption) (by assumption) | exact below2 (by assumption) (Nat.le_refl _) | exact Below.alloc (by assumption) (Below.size (by assumption)) _ | go_keep)
                (first | (go_at_call 10; refine (HWO1.out _ (bt HB7.out (by assumption))).mono ?_; rintro e w1 ⟨A9, c9, rfl, hN9, hb1⟩; have HN9 := Lib.hid hN9; clear hN9; obtain ⟨hcc, hff, hnn⟩ := bcell3 hb1; have hzz : w7.heap.size ≤ w1.heap.size := (bt (by assumption) hb1).size; try (have hyy : w7.heap.size < w1.heap.size := (by have hq := hb1.size; (try rw [World.size_alloc] at hq); first | exact Nat.lt_of_lt_of_le (by assumption) hq | (simp at hq; omega)))) | (go_at_call 9; refine (HEV1.out _ (bt HB7.out (by assumption)) _ (by first | exact HN9.out | exact HN9.out.below (heap1 _ _)) _).mono ?_; rintro e w1 ⟨rfl, hb1⟩; obtain ⟨hcc, hff, hnn⟩ := bcell3 hb1; have hzz : w7.heap.size ≤ w1.heap.size := (bt (by assumption) hb1).size; try (have hyy : w7.heap.size < w1.heap.size := (by have hq := hb1.size; (try rw [World.size_alloc] at hq); first | exact Nat.lt_of_lt_of_le (by assumption) hq | (simp at hq; omega)))))
              all_goals (go_wp2_with fail; go_meet; refine ⟨_, rfl, rfl, by assumption, ?_, ?_, ?_⟩)
              all_goals simp (maxDischargeDepth := 8) [go_sem, *]
            case rest =>
              obtain ⟨gg, rfl, rfl, hbc, hgg, d0, d1⟩ := hcut
              obtain ⟨W8, rfl⟩ : ∃ W8, W8 = wc := ⟨_, rfl⟩
              have HE := Lib.hid (bt HB7.out hbc)
              clear hbc hgg
              by_cases he : e0 = 0
              · subst he
                have hyy := HY.out.1 rfl
                subst hyy
                have hd1 : (y1 != y1) = false := by simp
                go_wp2
                go_roundg (n - (i + 1))
                case measure => have := HLT.out; have := HGK.out; omega
                case rel => exact ⟨i + 1, by have := HLT.out; omega, by go_num, HE.out⟩
              · have hok := HY.out.2 he
                dsimp only at hok
                have hv := hok.2
                injection hv with hv1 hv2
                subst hv1 hv2
                have q0 : (e0 == 0) = false := beq_eq_false_iff_ne.2 he
                have q1 : (e0 != 0) = true := by simpa using he
                have q2 : decide (e0 < 1) = false := decide_eq_false (by omega)
                have q3 : decide (3 < e0) = false := decide_eq_false (by omega)
                have q4 := Va.run_neq23
                have q5 : (!((0 : Int) == 0 && (0 : Int) == 0)) = false := by decide
                clear hok he
                go_wp2
                go_roundg (n - (i + 1))
                case measure => have := HLT.out; have := HGK.out; omega
                case rel => exact ⟨i + 1, by have := HLT.out; omega, by go_num, HE.out⟩
        · obtain rfl : i = n := by omega
          have hiz : ¬ (i : Int) < (i : Int) := by omega
          have HZ := Lib.hid (bt HB5.out hb)
          clear hb hi hlt
          go_wp2
          go_ret
          exact ⟨rfl, HZ.out⟩
    · have hne : (q2 != 0) = true := by simpa using hq2
      go_wp2
      go_ret
      exact ⟨rfl, HB3.out⟩
end Go.Proofs.Ytignojhijmamhaa
