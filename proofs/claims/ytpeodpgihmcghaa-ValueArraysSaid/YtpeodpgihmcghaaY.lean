/- PROVED here: the law ValueArrays, walked. No condition but those in each theorem's own head. -/
import Derived.Test.YtpeodpgihmcghaaN
namespace Go.Proofs.Ytpeodpgihmcghaa
open Go Go.RowKit Go.Sort

/-- a heap beside a new one of the document's -/
theorem Two.fresh {w : World} {base g : Nat} {v : Value} {vs : List Value} {L : List (List Int)} (h : Hp 46 C46 w base g v vs L) (hb : base ≤ w.heap.size) : Two (w.alloc (.cells #[.slice none 0 0] 49)) base g v vs L w.heap.size (.slice none 0 0) [] [] := by
  refine ⟨h.below (heap1 w _), Hp.new49 w base hb, fun b q r => ?_⟩
  have := h.lt q
  rcases r with r | r | ⟨x, hx, _⟩
  · omega
  · cases r
  · cases hx
theorem arr_room {L : List (List Int)} {N : Nat} (h2 : ¬ 262144 < cellsL L + ((N : Int) + 1)) (hN : N ≤ 65536) (i : Int) : newH L (N : Int) = L ++ [noughts N] ∧ newV L (N : Int) = ((3, (L.length : Int) + 1), 0, true) ∧ cellsL (L ++ [noughts N]) = cellsL L + (N : Int) + 1 ∧ lenH (L ++ [noughts N]) 3 ((L.length : Int) + 1) = (N : Int) ∧
    getV (L ++ [noughts N]) 3 ((L.length : Int) + 1) 1 i = if 0 ≤ i ∧ i < (N : Int) then ((1, 0), 0) else ((0, 0), 2) := by
  have hr : ¬ ((N : Int) < 0 ∨ 65536 < (N : Int)) := by omega
  have hb : hasB (L ++ [noughts N]) 3 ((L.length : Int) + 1) = true := by unfold hasB; simp; omega
  have hrow : rowAt (L ++ [noughts N]) ((L.length : Int) + 1) = noughts N := by
    unfold rowAt
    rw [show ((L.length : Int) + 1 - 1).toNat = L.length by omega, List.getD_eq_getElem?_getD]
    simp
  refine ⟨by unfold newH; rw [if_neg hr, if_neg h2]; simp [noughts], by unfold newV; rw [if_neg hr, if_neg h2], by rw [cells_app]; simp [cellsL, noughts_len]; omega, by unfold lenH; rw [hb, hrow, noughts_len]; rfl, ?_⟩
  have hw : wrongH (L ++ [noughts N]) 3 ((L.length : Int) + 1) 1 i = if 0 ≤ i ∧ i < (N : Int) then 0 else 2 := by
    unfold wrongH; rw [hb, hrow, noughts_len]; simp
  unfold getV
  rw [hw, hrow]
  by_cases hi : 0 ≤ i ∧ i < (N : Int)
  · rw [if_pos hi, if_pos hi, if_pos rfl]
    have hlt : i.toNat < N := by omega
    rw [List.getD_eq_getElem?_getD]
    simp [noughts, hlt]
  · rw [if_neg hi, if_neg hi, if_neg (by decide)]
theorem i64w {x : Int} (h1 : -9223372036854775808 ≤ x) (h2 : x ≤ 9223372036854775807) : IntKind.i64.wrap x = x := IntWalk.i64_in _ ⟨h1, h2⟩
set_option maxRecDepth 100000 in
set_option maxHeartbeats 8000000 in
theorem valueArrays_w (A : Option Addr) (c : Nat) (l : List AV) (num i : Int) (w : World) (hA : Acts w A l) : Calls Try.prog 7 #[.slice A l.length c, .int .i64 num, .int .i64 i] w (VPost (.bool true) w) := by
  have HSH := Lib.hid (shown_any w)
  have HA := Lib.hid hA
  have HN23 := Lib.hid (fun n W => numb n W)
  obtain ⟨n, hn⟩ : ∃ n, l.length = n := ⟨_, rfl⟩
  rw [hn]
  have HN := Lib.hid hn
  clear hA hn
  by_cases hl : 30 < (n : Int)
  · go_enter Try.func7, Try.ntmps7
    go_wp2_with (go_at_call 8; refine HSH.out.mono ?_)
    rintro e w1 ⟨rfl, hb1⟩
    have HB1 := Lib.hid hb1
    clear hb1
    go_wp2
    go_ret
    exact ⟨rfl, HB1.out⟩
  by_cases hbig : 65536 < num
  · go_enter Try.func7, Try.ntmps7
    go_wp2_with (go_at_call 8; refine HSH.out.mono ?_)
    rintro e w1 ⟨rfl, hb1⟩
    have HB1 := Lib.hid hb1
    clear hb1
    go_wp2
    go_ret
    exact ⟨rfl, HB1.out⟩
  go_enter Try.func7, Try.ntmps7
  go_wp2_with (go_at_call 8; refine HSH.out.mono ?_)
  rintro e w1 ⟨rfl, hb1⟩
  have HT := Lib.hid (Hp.new46 w1 w.heap.size hb1.size)
  have HB := Lib.hid (hb1.alloc hb1.size (.cells #[.slice none 0 0, .int .i64 0] 46))
  clear hb1
  have hln : (n : Int) ≤ 30 := by omega
  go_wp2
  generalize w1.heap.size = g1 at *
  go_loopw [9] (fun i wr => ∃ (k : Nat) (v1 : Value) (vs1 : List Value) (L : List (List Int)), k ≤ n ∧ i = .int .i64 (k : Int) ∧ Hp 46 C46 wr w.heap.size g1 v1 vs1 L ∧ Below w.heap.size w wr) (fun i _ => n - (intOf i).toNat)
  case atStart => exact ⟨0, _, _, _, Nat.zero_le _, rfl, HT.out, HB.out⟩
  case round =>
    obtain ⟨k, v1, vs1, L, hk, rfl, hT, hb⟩ := hrel
    obtain ⟨W1, rfl⟩ : ∃ W1, W1 = wr := ⟨_, rfl⟩
    by_cases hlt : k < n
    · have hkz : (k : Int) < (n : Int) := by omega
      have hkl : k < l.length := by rw [HN.out]; exact hlt
      have hb9 := bt hb (heap1 W1 (.cells #[.slice none 0 0] 49))
      obtain ⟨b, off, rfl, hbl, x0, x1, x2, x3, x4, x5, x6, x7⟩ := (HA.out.below hb9).at_ hkl
      generalize l[k] = a at *
      have hF0 := Two.fresh hT hb.size
      have HD := Lib.hid (does_any hF0 a)
      have HB1 := Lib.hid (And.intro hF0 hb9)
      have HK := Lib.hid hlt
      clear hT hb hk hF0 hb9 hbl
      go_wp2_with (go_at_call 15; refine HD.out.mono ?_)
      rintro e w2 ⟨bo, v1', vs1', v2', vs2', rfl, -, hT2, hF⟩
      have hb2 : Below w.heap.size w w2 := HB1.out.2.trans (hF.to_below HB1.out.2.size (fun x hx => hx.elim (fun q => HB1.out.1.h1.foot q) (fun q => HB1.out.1.h2.foot q)))
      have HE := Lib.hid (And.intro hT2.h1 hb2)
      generalize actH L a = M at *
      clear hT2 hF hb2 x0 x1 x2 x3 x4 x5 x6 x7
      go_wp2
      go_roundw
      case rel => exact ⟨k + 1, _, _, _, by have := HK.out; omega, by go_num, HE.out.1, HE.out.2⟩
      case measure => have := HK.out; simp [intOf]; omega
    · obtain rfl : k = n := by omega
      have hkz : ¬ (k : Int) < (k : Int) := by omega
      have HH := Lib.hid hT
      have HB1 := Lib.hid hb
      have HC16 := Lib.hid (fun W (q : Below W1.heap.size W1 W) => cells_any (HH.out.below q))
      have HC21 := Lib.hid (arrays_any hT)
      obtain ⟨z, hz⟩ : ∃ z, cellsL L = z := ⟨_, rfl⟩
      obtain ⟨m, hm⟩ : ∃ m, L.length = m := ⟨_, rfl⟩
      have hz0 : 0 ≤ z := by have := cells_ge L; omega
      have hz1 : z ≤ 262144 := by have := hT.cap; omega
      have hm1 : m ≤ 262144 := by have := hT.few; omega
      rw [hz] at HC16
      rw [hm] at HC21
      have HZ := Lib.hid hz
      have HM := Lib.hid hm
      clear hT hb hz hm hk hlt
      go_wp2_with (first | (go_at_call 16; refine (HC16.out _ (Below.refl _ _)).mono ?_; rintro e w' ⟨rfl, rfl⟩) | (go_at_call 21; refine HC21.out.mono ?_))
      rintro e w2 ⟨A2, c2, ws, rfl, -, hb2⟩
      have HH2 := Lib.hid (HH.out.below hb2)
      have HB2 := Lib.hid (bt HB1.out hb2)
      have HC26 := Lib.hid (new_any HH2.out num)
      clear hb2
      unfold NewP at HC26
      by_cases hneg : num < 0
      · rw [show newV L num = ((0, 0), 4, true) by unfold newV; rw [if_pos (Or.inl hneg)], show newH L num = L by unfold newH; rw [if_pos (Or.inl hneg)]] at HC26
        go_wp2_with (go_at_call 26; refine HC26.out.mono ?_)
        rintro e w3 ⟨rfl, v3, vs3, h3, F3, -⟩
        have hb3 := HB2.out.trans (F3.to_below HB2.out.size (fun x hx => HH2.out.foot hx))
        go_upto_region 12 with (fail)
        have h4 := h3.below (heap1 w3 (.cells #[.int .i64 0, .int .i64 0] 23))
        have hx4 := Bx.new w3 23 [.int .i64 0, .int .i64 0]
        have hb4 := hb3.alloc hb3.size (.cells #[.int .i64 0, .int .i64 0] 23)
        obtain ⟨W4, hW4⟩ : ∃ W4, w3.alloc (.cells #[.int .i64 0, .int .i64 0] 23) = W4 := ⟨_, rfl⟩
        rw [hW4] at h4 hb4 ⊢
        rw [show w3.alloc (.cells [Value.int .i64 0, .int .i64 0].toArray 23) = W4 from hW4] at hx4
        have HE := Lib.hid (And.intro h4 (And.intro hx4 hb4))
        have HA16 := Lib.hid (cells_any h4)
        have HA21 := Lib.hid (arrays_any h4)
        rw [HZ.out] at HA16
        rw [HM.out] at HA21
        clear h3 F3 hb3 h4 hx4 hb4
        have k1 : (z == z) = true := by simp
        have k2 : ((m : Int) == (m : Int)) = true := by simp
        have q1 := run_eql23
        go_wp2_with (first | (go_at_call 16; refine HA16.out.mono ?_; rintro e w' ⟨rfl, rfl⟩) | (go_at_call 21; refine HA21.out.mono ?_))
        rintro e w5 ⟨A5, c5, ws5, rfl, -, hb5⟩
        have y0 := ((HE.out.2.1.below hb5 HE.out.2.1.lt).cell 0).trans rfl
        have y1 := ((HE.out.2.1.below hb5 HE.out.2.1.lt).cell 1).trans rfl
        have HB5 := Lib.hid (bt HE.out.2.2 hb5)
        clear hb5
        go_wp2
        go_ret
        exact ⟨rfl, HB5.out⟩
      · obtain ⟨N, rfl⟩ : ∃ N : Nat, num = (N : Int) := ⟨num.toNat, by omega⟩
        have hN : N ≤ 65536 := by omega
        by_cases hroom : 262144 < cellsL L + ((N : Int) + 1)
        · rw [show newV L (N : Int) = ((0, 0), 0, false) by unfold newV; rw [if_neg (by omega), if_pos hroom], show newH L (N : Int) = L by unfold newH; rw [if_neg (by omega), if_pos hroom]] at HC26
          clear hroom
          have hneg2 : ¬ (N : Int) < 0 := hneg
          go_wp2_with (go_at_call 26; refine HC26.out.mono ?_)
          rintro e w3 ⟨rfl, v3, vs3, h3, F3, -⟩
          have hb3 := HB2.out.trans (F3.to_below HB2.out.size (fun x hx => HH2.out.foot hx))
          go_upto_region 12 with (fail)
          have h4 := h3.below (heap1 w3 (.cells #[.int .i64 0, .int .i64 0] 23))
          have hx4 := Bx.new w3 23 [.int .i64 0, .int .i64 0]
          have hb4 := hb3.alloc hb3.size (.cells #[.int .i64 0, .int .i64 0] 23)
          obtain ⟨W4, hW4⟩ : ∃ W4, w3.alloc (.cells #[.int .i64 0, .int .i64 0] 23) = W4 := ⟨_, rfl⟩
          rw [hW4] at h4 hb4 ⊢
          rw [show w3.alloc (.cells [Value.int .i64 0, .int .i64 0].toArray 23) = W4 from hW4] at hx4
          have HE := Lib.hid (And.intro h4 (And.intro hx4 hb4))
          have HA16 := Lib.hid (cells_any h4)
          have HA21 := Lib.hid (arrays_any h4)
          rw [HZ.out] at HA16
          rw [HM.out] at HA21
          clear h3 F3 hb3 h4 hx4 hb4
          have k1 : (z == z) = true := by simp
          have k2 : ((m : Int) == (m : Int)) = true := by simp
          have q1 := run_eql23
          go_wp2_with (first | (go_at_call 16; refine HA16.out.mono ?_; rintro e w' ⟨rfl, rfl⟩) | (go_at_call 21; refine HA21.out.mono ?_))
          rintro e w5 ⟨A5, c5, ws5, rfl, -, hb5⟩
          have y0 := ((HE.out.2.1.below hb5 HE.out.2.1.lt).cell 0).trans rfl
          have y1 := ((HE.out.2.1.below hb5 HE.out.2.1.lt).cell 1).trans rfl
          have HB5 := Lib.hid (bt HE.out.2.2 hb5)
          clear hb5
          go_wp2
          go_ret
          exact ⟨rfl, HB5.out⟩
        · obtain ⟨r1, r2, r3, r4, r5⟩ := arr_room hroom hN i
          rw [HM.out] at r2 r4 r5
          rw [HZ.out] at r3
          rw [r1, r2] at HC26
          obtain ⟨L', hL'⟩ : ∃ L', L ++ [noughts N] = L' := ⟨_, rfl⟩
          have hlen : L'.length = m + 1 := by rw [← hL']; simp [HM.out]
          rw [hL'] at r1 r3 r4 r5 HC26
          have HR := Lib.hid (And.intro r3 (And.intro r4 (And.intro r5 hlen)))
          clear r1 r2 r3 r4 r5 hroom hL' hlen
          go_wp2_with (go_at_call 26; refine HC26.out.mono ?_)
          rintro e w3 ⟨rfl, v3, vs3, h3, F3, -⟩
          have hb3 := HB2.out.trans (F3.to_below HB2.out.size (fun x hx => HH2.out.foot hx))
          have h4 := h3.below (heap1 w3 (.cells #[.int .i64 3, .int .i64 ((m : Int) + 1)] 23))
          have hx4 := Bx.new w3 23 [.int .i64 3, .int .i64 ((m : Int) + 1)]
          have hb4 := hb3.alloc hb3.size (.cells #[.int .i64 3, .int .i64 ((m : Int) + 1)] 23)
          go_upto_region 14 with (fail)
          obtain ⟨W4, hW4⟩ : ∃ W4, w3.alloc (.cells #[.int .i64 3, .int .i64 ((m : Int) + 1)] 23) = W4 := ⟨_, rfl⟩
          rw [hW4] at h4 hb4 ⊢
          rw [show w3.alloc (.cells [Value.int .i64 3, .int .i64 ((m : Int) + 1)].toArray 23) = W4 from hW4] at hx4
          have H4 := Lib.hid h4
          have HX4 := Lib.hid hx4
          have HB4 := Lib.hid hb4
          generalize w3.heap.size = t12 at *
          clear h3 F3 hb3 h4 hx4 hb4 hW4
          have HG := Lib.hid (fun W (q : Below W4.heap.size W4 W) => get_any (H4.out.below q) 3 ((m : Int) + 1) 1 i)
          rw [HR.out.2.2.1] at HG
          obtain ⟨⟨⟨k, x⟩, f⟩, hkxf⟩ : ∃ R, (if 0 ≤ i ∧ i < (N : Int) then (((1, 0), 0) : (Int × Int) × Int) else ((0, 0), 2)) = R := ⟨_, rfl⟩
          rw [hkxf] at HG
          have HKX := Lib.hid hkxf
          clear hkxf
          dsimp only at HG
          go_cut [15, 16] (fun p y wx => ∃ gg : Nat, p = .pointer (some ⟨gg, 0, none⟩) ∧ y = .int .i64 f ∧ Below W4.heap.size W4 wx ∧ gg < wx.heap.size ∧ wx.cell? ⟨gg, 0, none⟩ = some (.int .i64 k) ∧ wx.cell? ⟨gg, 1, none⟩ = some (.int .i64 x))
          case first =>
            have l0 : ∀ w', Below W4.heap.size W4 w' → w'.cell? ⟨t12, 0, none⟩ = some (.int .i64 3) := fun w' q => ((HX4.out.below q HX4.out.lt).cell 0).trans rfl
            have l1 : ∀ w', Below W4.heap.size W4 w' → w'.cell? ⟨t12, 1, none⟩ = some (.int .i64 ((m : Int) + 1)) := fun w' q => ((HX4.out.below q HX4.out.lt).cell 1).trans rfl
            go_region_held3 (fun w' => Below W4.heap.size W4 w') (first | exact (Below.refl _ _).drew | exact bt (by assumption) (by assumption) | exact realloc (by assumption) (by assumption) | exact below2 (by assumption) (by assumption) | exact below2 (by assumption) (Nat.le_refl _) | exact Below.alloc (by assumption) (Below.size (by assumption)) _ | go_keep)
              (first | (go_at_call 23; refine (HN23.out _ _).mono ?_; rintro e w1 ⟨rfl, hb1⟩; obtain ⟨hcc, hff, hnn⟩ := bcell3 hb1; have hzz : W4.heap.size ≤ w1.heap.size := (bt (by assumption) hb1).size; try (have hyy : W4.heap.size < w1.heap.size := (by have hq := hb1.size; (try rw [World.size_alloc] at hq); first | exact Nat.lt_of_lt_of_le (by assumption) hq | (simp at hq; omega)))) | (go_at_call 24; refine (HG.out _ (by assumption)).mono ?_; rintro e w1 ⟨rfl, hb1⟩; obtain ⟨hcc, hff, hnn⟩ := bcell3 hb1; have hzz : W4.heap.size ≤ w1.heap.size := (bt (by assumption) hb1).size; try (have hyy : W4.heap.size < w1.heap.size := (by have hq := hb1.size; (try rw [World.size_alloc] at hq); first | exact Nat.lt_of_lt_of_le (by assumption) hq | (simp at hq; omega)))))
            all_goals (go_wp2_with fail; go_meet; refine ⟨_, rfl, rfl, by assumption, ?_, ?_, ?_⟩)
            all_goals simp (maxDischargeDepth := 8) [go_sem, *]
          case rest =>
            obtain ⟨t15, rfl, rfl, hb, hgg, d0, d1⟩ := hcut
            obtain ⟨W5, rfl⟩ : ∃ W, W = wc := ⟨_, rfl⟩
            have H5 := Lib.hid (H4.out.below hb)
            have HX5 := Lib.hid (HX4.out.below hb HX4.out.lt)
            have HB5 := Lib.hid (bt HB4.out hb)
            have HY5 := Lib.hid (And.intro hgg (And.intro d0 d1))
            clear hb hgg d0 d1
            have HC16' := Lib.hid (fun W (q : Below W5.heap.size W5 W) => cells_any (H5.out.below q))
            have HC21' := Lib.hid (fun W (q : Below W5.heap.size W5 W) => arrays_any (H5.out.below q))
            have HC18' := Lib.hid (fun W (q : Below W5.heap.size W5 W) => len_any (H5.out.below q) 3 ((m : Int) + 1))
            rw [HR.out.1] at HC16'
            rw [HR.out.2.2.2] at HC21'
            rw [HR.out.2.1] at HC18'
            have hw1 : IntKind.i64.wrap (z + (N : Int)) = z + (N : Int) := i64w (by omega) (by omega)
            have hw2 : IntKind.i64.wrap (z + (N : Int) + 1) = z + (N : Int) + 1 := i64w (by omega) (by omega)
            have hw3 : IntKind.i64.wrap ((m : Int) + 1) = (m : Int) + 1 := i64w (by omega) (by omega)
            have k1 : (z + (N : Int) + 1 == z + (N : Int) + 1) = true := by simp
            have k2 : (((m + 1 : Nat) : Int) == (m : Int) + 1) = true := by simp
            have k3 : ((m : Int) + 1 == (m : Int) + 1) = true := by simp
            have k4 : ((N : Int) == (N : Int)) = true := by simp
            have HW := Lib.hid (And.intro hw1 (And.intro hw2 (And.intro hw3 (And.intro k1 (And.intro k2 (And.intro k3 k4))))))
            clear hw1 hw2 hw3 k1 k2 k3 k4
            have l0 : ∀ w', Below W5.heap.size W5 w' → w'.cell? ⟨t12, 0, none⟩ = some (.int .i64 3) := fun w' q => ((HX5.out.below q HX5.out.lt).cell 0).trans rfl
            have l1 : ∀ w', Below W5.heap.size W5 w' → w'.cell? ⟨t12, 1, none⟩ = some (.int .i64 ((m : Int) + 1)) := fun w' q => ((HX5.out.below q HX5.out.lt).cell 1).trans rfl
            have l2 : ∀ w', Below W5.heap.size W5 w' → w'.cell? ⟨t15, 0, none⟩ = some (.int .i64 k) := fun w' q => (q.cell (p := ⟨t15, 0, none⟩) HY5.out.1).trans HY5.out.2.1
            have l3 : ∀ w', Below W5.heap.size W5 w' → w'.cell? ⟨t15, 1, none⟩ = some (.int .i64 x) := fun w' q => (q.cell (p := ⟨t15, 1, none⟩) HY5.out.1).trans HY5.out.2.2
            have HLL := Lib.hid (And.intro l0 (And.intro l1 (And.intro l2 l3)))
            clear l0 l1 l2 l3
            by_cases hi0 : 0 ≤ i
            · by_cases hiN : i < (N : Int)
              · have hkx := HKX.out
                rw [if_pos ⟨hi0, hiN⟩] at hkx
                simp only [Prod.mk.injEq] at hkx
                obtain ⟨⟨rfl, rfl⟩, rfl⟩ := hkx
                go_upto_region 16 with (fail)
                obtain ⟨hw1, hw2, hw3, k1, k2, k3, k4⟩ := HW.out
                obtain ⟨l0, l1, l2, l3⟩ := HLL.out
                have q1 := run_eql23
                refine wp_region_held (S := fun w' => Below W5.heap.size W5 w') (by kernel_rfl) ?_
                have hS : Below W5.heap.size W5 ({ W5 with drawn := W5.drawn + 1 } : World) := (Below.refl _ _).drew
                generalize ({ W5 with drawn := W5.drawn + 1 } : World) = V0 at *
                refine hpu 0 (o := ({ dst := some 103, op := Op.move (Operand.tmp 8), type := 38, pos := "more.go:26", after := #[], guard := none } : Oper)) (.pointer (some ⟨g1, 0, none⟩)) (by kernel_rfl) rfl rfl (fun _ _ _ h => h) rfl (by intro w hSw; go_simp) hS ?_
                simp only [ap]
                refine hpu 2 (o := ({ dst := some 105, op := Op.move (Operand.tmp 10), type := 3, pos := "more.go:26", after := #[], guard := none } : Oper)) (.int .i64 z) (by kernel_rfl) rfl rfl (fun _ _ _ h => h) rfl (by intro w hSw; go_simp) hS ?_
                simp only [ap]
                refine hpu 3 (o := ({ dst := some 106, op := Op.move (Operand.tmp 1), type := 3, pos := "more.go:26", after := #[], guard := none } : Oper)) (.int .i64 (N : Int)) (by kernel_rfl) rfl rfl (fun _ _ _ h => h) rfl (by intro w hSw; go_simp) hS ?_
                simp only [ap]
                refine hpu 4 (o := ({ dst := some 107, op := Op.binOp BinOp.add 3 (Operand.tmp 105) (Operand.tmp 106) 3, type := 3, pos := "more.go:26", after := #[{ on := 2, ground := Ground.data }, { on := 3, ground := Ground.data }], guard := none } : Oper)) (.int .i64 (z + (N : Int))) (by kernel_rfl) rfl rfl (fun _ _ _ h => h) rfl (by intro w hSw; go_simp) hS ?_
                simp only [ap]
                refine hpu 5 (o := ({ dst := some 108, op := Op.binOp BinOp.add 3 (Operand.tmp 107) (Operand.const (Value.int IntKind.i64 1)) 3, type := 3, pos := "more.go:26", after := #[{ on := 4, ground := Ground.data }], guard := none } : Oper)) (.int .i64 (z + (N : Int) + 1)) (by kernel_rfl) rfl rfl (fun _ _ _ h => h) rfl (by intro w hSw; go_simp) hS ?_
                simp only [ap]
                refine h_call 1 ({ dst := some 104, op := Op.call { callee := Callee.value (Operand.func 16), args := #[Operand.tmp 103], argTypes := #[38] }, type := 3, pos := "more.go:26", after := #[{ on := 0, ground := Ground.data }], guard := none } : Oper) (fun v w1 => v = .int .i64 (z + (N : Int) + 1) ∧ V0 = w1) own16 rfl rfl rfl (by kernel_rfl) rfl (args := #[.pointer (some ⟨g1, 0, none⟩)]) rfl (((HC16'.out _ hS).mono fun e w1 q => ⟨_, q.1, rfl, q.2⟩)) ?_
                rintro v w1 ⟨rfl, rfl⟩
                refine ⟨hS, ?_⟩
                simp only [ap]
                refine hpu 6 (o := ({ dst := some 109, op := Op.binOp BinOp.eql 3 (Operand.tmp 104) (Operand.tmp 108) 3, type := 4, pos := "more.go:26", after := #[{ on := 1, ground := Ground.data }, { on := 5, ground := Ground.data }], guard := none } : Oper)) (.bool true) (by kernel_rfl) rfl rfl (fun _ _ _ h => h) rfl (by intro w hSw; go_simp) hS ?_
                simp only [ap]
                refine hpu 7 (o := ({ dst := some 110, op := Op.move (Operand.tmp 109), type := 4, pos := "more.go:26", after := #[{ on := 6, ground := Ground.data }, { on := 1, ground := Ground.chain }], guard := none } : Oper)) (.bool true) (by kernel_rfl) rfl rfl (fun _ _ _ h => h) rfl (by intro w hSw; go_simp) hS ?_
                simp only [ap]
                refine hpu 8 (o := ({ dst := some 111, op := Op.move (Operand.tmp 8), type := 38, pos := "more.go:26", after := #[{ on := 7, ground := Ground.guard }], guard := some (7, true) } : Oper)) (.pointer (some ⟨g1, 0, none⟩)) (by kernel_rfl) rfl rfl (fun _ _ _ h => h) rfl (by intro w hSw; go_simp) hS ?_
                simp only [ap]
                refine hpu 11 (o := ({ dst := some 114, op := Op.move (Operand.tmp 11), type := 3, pos := "more.go:26", after := #[{ on := 7, ground := Ground.guard }], guard := some (7, true) } : Oper)) (.int .i64 (m : Int)) (by kernel_rfl) rfl rfl (fun _ _ _ h => h) rfl (by intro w hSw; go_simp) hS ?_
                simp only [ap]
                refine hpu 12 (o := ({ dst := some 115, op := Op.binOp BinOp.add 3 (Operand.tmp 114) (Operand.const (Value.int IntKind.i64 1)) 3, type := 3, pos := "more.go:26", after := #[{ on := 11, ground := Ground.data }, { on := 7, ground := Ground.guard }], guard := some (7, true) } : Oper)) (.int .i64 ((m : Int) + 1)) (by kernel_rfl) rfl rfl (fun _ _ _ h => h) rfl (by intro w hSw; go_simp) hS ?_
                simp only [ap]
                refine h_call 9 ({ dst := some 112, op := Op.call { callee := Callee.value (Operand.func 21), args := #[Operand.tmp 111], argTypes := #[38] }, type := 39, pos := "more.go:26", after := #[{ on := 8, ground := Ground.data }, { on := 7, ground := Ground.chain }, { on := 7, ground := Ground.guard }], guard := some (7, true) } : Oper) (fun v w1 => ∃ A c, v = .slice A (m + 1) c ∧ Below V0.heap.size V0 w1) own21 rfl rfl rfl (by kernel_rfl) rfl (args := #[.pointer (some ⟨g1, 0, none⟩)]) rfl (((HC21'.out _ hS).mono fun e w1 q => by obtain ⟨A, c, ws, rfl, _, hb⟩ := q; exact ⟨_, rfl, A, c, rfl, hb⟩)) ?_
                rintro v W6 ⟨A6, c6, rfl, hb6⟩
                have hS := bt hS hb6
                refine ⟨hS, ?_⟩
                simp only [ap]
                refine hpu 10 (o := ({ dst := some 113, op := Op.call { callee := Callee.builtin Builtin.len, args := #[Operand.tmp 112], argTypes := #[39] }, type := 3, pos := "more.go:26", after := #[{ on := 9, ground := Ground.data }, { on := 7, ground := Ground.guard }], guard := some (7, true) } : Oper)) (.int .i64 ((m + 1 : Nat) : Int)) (by kernel_rfl) rfl rfl (fun _ _ _ h => h) rfl (by intro w hSw; go_simp) hS ?_
                simp only [ap]
                refine hpu 13 (o := ({ dst := some 116, op := Op.binOp BinOp.eql 3 (Operand.tmp 113) (Operand.tmp 115) 3, type := 4, pos := "more.go:26", after := #[{ on := 10, ground := Ground.data }, { on := 12, ground := Ground.data }, { on := 7, ground := Ground.guard }], guard := some (7, true) } : Oper)) (.bool true) (by kernel_rfl) rfl rfl (fun _ _ _ h => h) rfl (by intro w hSw; go_simp) hS ?_
                simp only [ap]
                refine hpu 14 (o := ({ dst := some 117, op := Op.pick (Operand.tmp 110) (Operand.tmp 116) (Operand.const (Value.bool false)), type := 4, pos := "more.go:26", after := #[{ on := 7, ground := Ground.data }, { on := 13, ground := Ground.data }], guard := none } : Oper)) (.bool true) (by kernel_rfl) rfl rfl (fun _ _ _ h => h) rfl (by intro w hSw; go_simp) hS ?_
                simp only [ap]
                refine hpu 15 (o := ({ dst := some 118, op := Op.move (Operand.tmp 117), type := 4, pos := "more.go:26", after := #[{ on := 14, ground := Ground.data }, { on := 9, ground := Ground.chain }], guard := none } : Oper)) (.bool true) (by kernel_rfl) rfl rfl (fun _ _ _ h => h) rfl (by intro w hSw; go_simp) hS ?_
                simp only [ap]
                refine hpu 16 (o := ({ dst := some 119, op := Op.fieldAddr 23 (Operand.tmp 12) 1, type := 0, pos := "more.go:26", after := #[{ on := 15, ground := Ground.guard }], guard := some (15, true) } : Oper)) (.pointer (some ⟨t12, 1, none⟩)) (by kernel_rfl) rfl rfl (fun _ _ _ h => h) rfl (by intro w hSw; go_simp) hS ?_
                simp only [ap]
                refine hpu 17 (o := ({ dst := some 120, op := Op.load 3 (Operand.tmp 119), type := 3, pos := "more.go:26", after := #[{ on := 16, ground := Ground.data }, { on := 15, ground := Ground.guard }], guard := some (15, true) } : Oper)) (.int .i64 ((m : Int) + 1)) (by kernel_rfl) rfl rfl (fun _ _ _ h => h) rfl (by intro w hSw; go_simp) hS ?_
                simp only [ap]
                refine hpu 18 (o := ({ dst := some 121, op := Op.move (Operand.tmp 11), type := 3, pos := "more.go:26", after := #[{ on := 15, ground := Ground.guard }], guard := some (15, true) } : Oper)) (.int .i64 (m : Int)) (by kernel_rfl) rfl rfl (fun _ _ _ h => h) rfl (by intro w hSw; go_simp) hS ?_
                simp only [ap]
                refine hpu 19 (o := ({ dst := some 122, op := Op.binOp BinOp.add 3 (Operand.tmp 121) (Operand.const (Value.int IntKind.i64 1)) 3, type := 3, pos := "more.go:26", after := #[{ on := 18, ground := Ground.data }, { on := 15, ground := Ground.guard }], guard := some (15, true) } : Oper)) (.int .i64 ((m : Int) + 1)) (by kernel_rfl) rfl rfl (fun _ _ _ h => h) rfl (by intro w hSw; go_simp) hS ?_
                simp only [ap]
                refine hpu 20 (o := ({ dst := some 123, op := Op.binOp BinOp.eql 3 (Operand.tmp 120) (Operand.tmp 122) 3, type := 4, pos := "more.go:26", after := #[{ on := 17, ground := Ground.data }, { on := 19, ground := Ground.data }, { on := 15, ground := Ground.guard }], guard := some (15, true) } : Oper)) (.bool true) (by kernel_rfl) rfl rfl (fun _ _ _ h => h) rfl (by intro w hSw; go_simp) hS ?_
                simp only [ap]
                refine hpu 21 (o := ({ dst := some 124, op := Op.pick (Operand.tmp 118) (Operand.tmp 123) (Operand.const (Value.bool false)), type := 4, pos := "more.go:26", after := #[{ on := 15, ground := Ground.data }, { on := 20, ground := Ground.data }], guard := none } : Oper)) (.bool true) (by kernel_rfl) rfl rfl (fun _ _ _ h => h) rfl (by intro w hSw; go_simp) hS ?_
                simp only [ap]
                refine hpu 22 (o := ({ dst := some 125, op := Op.move (Operand.tmp 124), type := 4, pos := "more.go:26", after := #[{ on := 21, ground := Ground.data }, { on := 15, ground := Ground.chain }], guard := none } : Oper)) (.bool true) (by kernel_rfl) rfl rfl (fun _ _ _ h => h) rfl (by intro w hSw; go_simp) hS ?_
                simp only [ap]
                refine hpu 23 (o := ({ dst := some 126, op := Op.move (Operand.tmp 8), type := 38, pos := "more.go:26", after := #[{ on := 22, ground := Ground.guard }], guard := some (22, true) } : Oper)) (.pointer (some ⟨g1, 0, none⟩)) (by kernel_rfl) rfl rfl (fun _ _ _ h => h) rfl (by intro w hSw; go_simp) hS ?_
                simp only [ap]
                refine hpu 24 (o := ({ dst := some 127, op := Op.load 23 (Operand.tmp 12), type := 23, pos := "more.go:26", after := #[{ on := 22, ground := Ground.guard }], guard := some (22, true) } : Oper)) (.agg #[.int .i64 3, .int .i64 ((m : Int) + 1)]) (by kernel_rfl) rfl rfl (fun _ _ _ h => h) rfl (by intro w hSw; go_simp) hS ?_
                simp only [ap]
                refine hpu 26 (o := ({ dst := some 129, op := Op.move (Operand.tmp 1), type := 3, pos := "more.go:26", after := #[{ on := 22, ground := Ground.guard }], guard := some (22, true) } : Oper)) (.int .i64 (N : Int)) (by kernel_rfl) rfl rfl (fun _ _ _ h => h) rfl (by intro w hSw; go_simp) hS ?_
                simp only [ap]
                refine h_call 25 ({ dst := some 128, op := Op.call { callee := Callee.value (Operand.func 18), args := #[Operand.tmp 126, Operand.tmp 127], argTypes := #[38, 23] }, type := 3, pos := "more.go:26", after := #[{ on := 23, ground := Ground.data }, { on := 24, ground := Ground.data }, { on := 22, ground := Ground.chain }, { on := 22, ground := Ground.guard }], guard := some (22, true) } : Oper) (fun v w1 => v = .int .i64 (N : Int) ∧ Below W6.heap.size W6 w1) own18 rfl rfl rfl (by kernel_rfl) rfl (args := #[.pointer (some ⟨g1, 0, none⟩), .agg #[.int .i64 3, .int .i64 ((m : Int) + 1)]]) rfl (((HC18'.out _ hS).mono fun e w1 q => ⟨_, q.1, rfl, q.2⟩)) ?_
                rintro v W7 ⟨rfl, hb7⟩
                have hS := bt hS hb7
                refine ⟨hS, ?_⟩
                simp only [ap]
                refine hpu 27 (o := ({ dst := some 130, op := Op.binOp BinOp.eql 3 (Operand.tmp 128) (Operand.tmp 129) 3, type := 4, pos := "more.go:26", after := #[{ on := 25, ground := Ground.data }, { on := 26, ground := Ground.data }, { on := 22, ground := Ground.guard }], guard := some (22, true) } : Oper)) (.bool true) (by kernel_rfl) rfl rfl (fun _ _ _ h => h) rfl (by intro w hSw; go_simp) hS ?_
                simp only [ap]
                refine hpu 28 (o := ({ dst := some 131, op := Op.pick (Operand.tmp 125) (Operand.tmp 130) (Operand.const (Value.bool false)), type := 4, pos := "more.go:26", after := #[{ on := 22, ground := Ground.data }, { on := 27, ground := Ground.data }], guard := none } : Oper)) (.bool true) (by kernel_rfl) rfl rfl (fun _ _ _ h => h) rfl (by intro w hSw; go_simp) hS ?_
                simp only [ap]
                refine hpu 29 (o := ({ dst := some 132, op := Op.move (Operand.tmp 131), type := 4, pos := "more.go:26", after := #[{ on := 28, ground := Ground.data }, { on := 25, ground := Ground.chain }], guard := none } : Oper)) (.bool true) (by kernel_rfl) rfl rfl (fun _ _ _ h => h) rfl (by intro w hSw; go_simp) hS ?_
                simp only [ap]
                refine hpu 30 (o := ({ dst := some 133, op := Op.move (Operand.tmp 16), type := 3, pos := "more.go:26", after := #[{ on := 29, ground := Ground.guard }], guard := some (29, true) } : Oper)) (.int .i64 0) (by kernel_rfl) rfl rfl (fun _ _ _ h => h) rfl (by intro w hSw; go_simp) hS ?_
                simp only [ap]
                refine hpu 31 (o := ({ dst := some 134, op := Op.binOp BinOp.eql 3 (Operand.tmp 133) (Operand.const (Value.int IntKind.i64 0)) 3, type := 4, pos := "more.go:26", after := #[{ on := 30, ground := Ground.data }, { on := 29, ground := Ground.guard }], guard := some (29, true) } : Oper)) (.bool true) (by kernel_rfl) rfl rfl (fun _ _ _ h => h) rfl (by intro w hSw; go_simp) hS ?_
                simp only [ap]
                refine hpu 32 (o := ({ dst := some 135, op := Op.move (Operand.tmp 17), type := 4, pos := "more.go:26", after := #[{ on := 29, ground := Ground.guard }], guard := some (29, true) } : Oper)) (.bool true) (by kernel_rfl) rfl rfl (fun _ _ _ h => h) rfl (by intro w hSw; go_simp) hS ?_
                simp only [ap]
                refine hpu 33 (o := ({ dst := some 136, op := Op.binOp BinOp.eql 4 (Operand.tmp 134) (Operand.tmp 135) 4, type := 4, pos := "more.go:26", after := #[{ on := 31, ground := Ground.data }, { on := 32, ground := Ground.data }, { on := 29, ground := Ground.guard }], guard := some (29, true) } : Oper)) (.bool true) (by kernel_rfl) rfl rfl (fun _ _ _ h => h) rfl (by intro w hSw; go_simp) hS ?_
                simp only [ap]
                refine hpu 34 (o := ({ dst := some 137, op := Op.pick (Operand.tmp 132) (Operand.tmp 136) (Operand.const (Value.bool false)), type := 4, pos := "more.go:26", after := #[{ on := 29, ground := Ground.data }, { on := 33, ground := Ground.data }], guard := none } : Oper)) (.bool true) (by kernel_rfl) rfl rfl (fun _ _ _ h => h) rfl (by intro w hSw; go_simp) hS ?_
                simp only [ap]
                refine hpu 35 (o := ({ dst := some 138, op := Op.move (Operand.tmp 137), type := 4, pos := "more.go:26", after := #[{ on := 34, ground := Ground.data }, { on := 29, ground := Ground.chain }], guard := none } : Oper)) (.bool true) (by kernel_rfl) rfl rfl (fun _ _ _ h => h) rfl (by intro w hSw; go_simp) hS ?_
                simp only [ap]
                refine hpu 36 (o := ({ dst := some 139, op := Op.move (Operand.tmp 17), type := 4, pos := "more.go:26", after := #[{ on := 35, ground := Ground.guard }], guard := some (35, true) } : Oper)) (.bool true) (by kernel_rfl) rfl rfl (fun _ _ _ h => h) rfl (by intro w hSw; go_simp) hS ?_
                simp only [ap]
                refine hpu 37 (o := ({ dst := some 140, op := Op.unOp UnOp.not 4 (Operand.tmp 139), type := 4, pos := "more.go:26", after := #[{ on := 36, ground := Ground.data }, { on := 35, ground := Ground.guard }], guard := some (35, true) } : Oper)) (.bool false) (by kernel_rfl) rfl rfl (fun _ _ _ h => h) rfl (by intro w hSw; go_simp) hS ?_
                simp only [ap]
                refine hpu 38 (o := ({ dst := some 141, op := Op.move (Operand.tmp 140), type := 4, pos := "more.go:26", after := #[{ on := 37, ground := Ground.data }, { on := 35, ground := Ground.chain }, { on := 35, ground := Ground.guard }], guard := some (35, true) } : Oper)) (.bool false) (by kernel_rfl) rfl rfl (fun _ _ _ h => h) rfl (by intro w hSw; go_simp) hS ?_
                simp only [ap]
                refine hpu 39 (o := ({ dst := some 142, op := Op.load 23 (Operand.tmp 15), type := 23, pos := "more.go:26", after := #[{ on := 38, ground := Ground.guard }], guard := some (38, false) } : Oper)) (.agg #[.int .i64 1, .int .i64 0]) (by kernel_rfl) rfl rfl (fun _ _ _ h => h) rfl (by intro w hSw; go_simp) hS ?_
                simp only [ap]
                refine h_call 40 ({ dst := some 143, op := Op.call { callee := Callee.value (Operand.func 23), args := #[Operand.const (Value.int IntKind.i64 0)], argTypes := #[3] }, type := 23, pos := "more.go:26", after := #[{ on := 38, ground := Ground.chain }, { on := 38, ground := Ground.guard }], guard := some (38, false) } : Oper) (fun v w1 => v = .agg #[.int .i64 1, .int .i64 0] ∧ Below W7.heap.size W7 w1) own23 rfl rfl rfl (by kernel_rfl) rfl (args := #[.int .i64 0]) rfl (((HN23.out _ _).mono fun e w1 q => ⟨_, q.1, rfl, q.2⟩)) ?_
                rintro v W8 ⟨rfl, hb8⟩
                have hS := bt hS hb8
                refine ⟨hS, ?_⟩
                simp only [ap]
                refine hpu 41 (o := ({ dst := some 144, op := Op.binOp BinOp.eql 23 (Operand.tmp 142) (Operand.tmp 143) 23, type := 4, pos := "more.go:26", after := #[{ on := 39, ground := Ground.data }, { on := 40, ground := Ground.data }, { on := 38, ground := Ground.guard }], guard := some (38, false) } : Oper)) (.bool true) (by kernel_rfl) rfl rfl (fun _ _ _ h => h) rfl (by intro w hSw; go_simp) hS ?_
                simp only [ap]
                refine hpu 42 (o := ({ dst := some 145, op := Op.pick (Operand.tmp 141) (Operand.const (Value.bool true)) (Operand.tmp 144), type := 4, pos := "more.go:26", after := #[{ on := 38, ground := Ground.data }, { on := 41, ground := Ground.data }, { on := 35, ground := Ground.guard }], guard := some (35, true) } : Oper)) (.bool true) (by kernel_rfl) rfl rfl (fun _ _ _ h => h) rfl (by intro w hSw; go_simp) hS ?_
                simp only [ap]
                refine hpu 43 (o := ({ dst := some 146, op := Op.pick (Operand.tmp 138) (Operand.tmp 145) (Operand.const (Value.bool false)), type := 4, pos := "more.go:26", after := #[{ on := 35, ground := Ground.data }, { on := 42, ground := Ground.data }], guard := none } : Oper)) (.bool true) (by kernel_rfl) rfl rfl (fun _ _ _ h => h) rfl (by intro w hSw; go_simp) hS ?_
                simp only [ap]
                refine hpu 44 (o := ({ dst := some 147, op := Op.move (Operand.tmp 146), type := 4, pos := "more.go:26", after := #[{ on := 43, ground := Ground.data }, { on := 40, ground := Ground.chain }], guard := none } : Oper)) (.bool true) (by kernel_rfl) rfl rfl (fun _ _ _ h => h) rfl (by intro w hSw; go_simp) hS ?_
                simp only [ap]
                refine hpu 45 (o := ({ dst := some 148, op := Op.move (Operand.tmp 17), type := 4, pos := "more.go:26", after := #[{ on := 44, ground := Ground.guard }], guard := some (44, true) } : Oper)) (.bool true) (by kernel_rfl) rfl rfl (fun _ _ _ h => h) rfl (by intro w hSw; go_simp) hS ?_
                simp only [ap]
                refine hpu 46 (o := ({ dst := some 149, op := Op.move (Operand.tmp 148), type := 4, pos := "more.go:26", after := #[{ on := 45, ground := Ground.data }, { on := 44, ground := Ground.chain }, { on := 44, ground := Ground.guard }], guard := some (44, true) } : Oper)) (.bool true) (by kernel_rfl) rfl rfl (fun _ _ _ h => h) rfl (by intro w hSw; go_simp) hS ?_
                simp only [ap]
                refine h_off 47 (by kernel_rfl) rfl rfl (fun _ _ _ h => h) rfl hS ?_
                simp only [ap]
                refine h_off 48 (by kernel_rfl) rfl rfl (fun _ _ _ h => h) rfl hS ?_
                simp only [ap]
                refine hpu 49 (o := ({ dst := some 152, op := Op.pick (Operand.tmp 149) (Operand.const (Value.bool true)) (Operand.tmp 151), type := 4, pos := "more.go:26", after := #[{ on := 46, ground := Ground.data }, { on := 48, ground := Ground.data }, { on := 44, ground := Ground.guard }], guard := some (44, true) } : Oper)) (.bool true) (by kernel_rfl) rfl rfl (fun _ _ _ h => h) rfl (by intro w hSw; go_simp) hS ?_
                simp only [ap]
                refine hpu 50 (o := ({ dst := some 153, op := Op.pick (Operand.tmp 147) (Operand.tmp 152) (Operand.const (Value.bool false)), type := 4, pos := "more.go:26", after := #[{ on := 44, ground := Ground.data }, { on := 49, ground := Ground.data }], guard := none } : Oper)) (.bool true) (by kernel_rfl) rfl rfl (fun _ _ _ h => h) rfl (by intro w hSw; go_simp) hS ?_
                simp only [ap]
                refine hpu 51 (o := ({ dst := some 6, op := Op.assign (Operand.tmp 153), type := 4, pos := "more.go:26", after := #[{ on := 50, ground := Ground.data }, { on := 46, ground := Ground.chain }, { on := 0, ground := Ground.phase }, { on := 1, ground := Ground.phase }, { on := 2, ground := Ground.phase }, { on := 3, ground := Ground.phase }, { on := 4, ground := Ground.phase }, { on := 5, ground := Ground.phase }, { on := 6, ground := Ground.phase }, { on := 7, ground := Ground.phase }, { on := 8, ground := Ground.phase }, { on := 9, ground := Ground.phase }, { on := 10, ground := Ground.phase }, { on := 11, ground := Ground.phase }, { on := 12, ground := Ground.phase }, { on := 13, ground := Ground.phase }, { on := 14, ground := Ground.phase }, { on := 15, ground := Ground.phase }, { on := 16, ground := Ground.phase }, { on := 17, ground := Ground.phase }, { on := 18, ground := Ground.phase }, { on := 19, ground := Ground.phase }, { on := 20, ground := Ground.phase }, { on := 21, ground := Ground.phase }, { on := 22, ground := Ground.phase }, { on := 23, ground := Ground.phase }, { on := 24, ground := Ground.phase }, { on := 25, ground := Ground.phase }, { on := 26, ground := Ground.phase }, { on := 27, ground := Ground.phase }, { on := 28, ground := Ground.phase }, { on := 29, ground := Ground.phase }, { on := 30, ground := Ground.phase }, { on := 31, ground := Ground.phase }, { on := 32, ground := Ground.phase }, { on := 33, ground := Ground.phase }, { on := 34, ground := Ground.phase }, { on := 35, ground := Ground.phase }, { on := 36, ground := Ground.phase }, { on := 37, ground := Ground.phase }, { on := 38, ground := Ground.phase }, { on := 39, ground := Ground.phase }, { on := 40, ground := Ground.phase }, { on := 41, ground := Ground.phase }, { on := 42, ground := Ground.phase }, { on := 43, ground := Ground.phase }, { on := 44, ground := Ground.phase }, { on := 45, ground := Ground.phase }, { on := 46, ground := Ground.phase }, { on := 47, ground := Ground.phase }, { on := 48, ground := Ground.phase }, { on := 49, ground := Ground.phase }, { on := 50, ground := Ground.phase }], guard := none } : Oper)) (.bool true) (by kernel_rfl) rfl rfl (fun _ _ _ h => h) rfl (by intro w hSw; go_simp) hS ?_
                simp only [ap]
                refine wpAnyH_done (by kernel_rfl) ?_ _
                have HE := Lib.hid (bt HB5.out hS)
                clear hw1 hw2 hw3 k1 k2 k3 k4 l0 l1 l2 l3 q1 hS
                go_wp2
                go_ret
                exact ⟨rfl, HE.out⟩
              · have hkx := HKX.out
                rw [if_neg (fun q => hiN q.2)] at hkx
                simp only [Prod.mk.injEq] at hkx
                obtain ⟨⟨rfl, rfl⟩, rfl⟩ := hkx
                go_upto_region 16 with (fail)
                obtain ⟨hw1, hw2, hw3, k1, k2, k3, k4⟩ := HW.out
                obtain ⟨l0, l1, l2, l3⟩ := HLL.out
                have q1 := run_eql23
                refine wp_region_held (S := fun w' => Below W5.heap.size W5 w') (by kernel_rfl) ?_
                have hS : Below W5.heap.size W5 ({ W5 with drawn := W5.drawn + 1 } : World) := (Below.refl _ _).drew
                generalize ({ W5 with drawn := W5.drawn + 1 } : World) = V0 at *
                refine hpu 0 (o := ({ dst := some 103, op := Op.move (Operand.tmp 8), type := 38, pos := "more.go:26", after := #[], guard := none } : Oper)) (.pointer (some ⟨g1, 0, none⟩)) (by kernel_rfl) rfl rfl (fun _ _ _ h => h) rfl (by intro w hSw; go_simp) hS ?_
                simp only [ap]
                refine hpu 2 (o := ({ dst := some 105, op := Op.move (Operand.tmp 10), type := 3, pos := "more.go:26", after := #[], guard := none } : Oper)) (.int .i64 z) (by kernel_rfl) rfl rfl (fun _ _ _ h => h) rfl (by intro w hSw; go_simp) hS ?_
                simp only [ap]
                refine hpu 3 (o := ({ dst := some 106, op := Op.move (Operand.tmp 1), type := 3, pos := "more.go:26", after := #[], guard := none } : Oper)) (.int .i64 (N : Int)) (by kernel_rfl) rfl rfl (fun _ _ _ h => h) rfl (by intro w hSw; go_simp) hS ?_
                simp only [ap]
                refine hpu 4 (o := ({ dst := some 107, op := Op.binOp BinOp.add 3 (Operand.tmp 105) (Operand.tmp 106) 3, type := 3, pos := "more.go:26", after := #[{ on := 2, ground := Ground.data }, { on := 3, ground := Ground.data }], guard := none } : Oper)) (.int .i64 (z + (N : Int))) (by kernel_rfl) rfl rfl (fun _ _ _ h => h) rfl (by intro w hSw; go_simp) hS ?_
                simp only [ap]
                refine hpu 5 (o := ({ dst := some 108, op := Op.binOp BinOp.add 3 (Operand.tmp 107) (Operand.const (Value.int IntKind.i64 1)) 3, type := 3, pos := "more.go:26", after := #[{ on := 4, ground := Ground.data }], guard := none } : Oper)) (.int .i64 (z + (N : Int) + 1)) (by kernel_rfl) rfl rfl (fun _ _ _ h => h) rfl (by intro w hSw; go_simp) hS ?_
                simp only [ap]
                refine h_call 1 ({ dst := some 104, op := Op.call { callee := Callee.value (Operand.func 16), args := #[Operand.tmp 103], argTypes := #[38] }, type := 3, pos := "more.go:26", after := #[{ on := 0, ground := Ground.data }], guard := none } : Oper) (fun v w1 => v = .int .i64 (z + (N : Int) + 1) ∧ V0 = w1) own16 rfl rfl rfl (by kernel_rfl) rfl (args := #[.pointer (some ⟨g1, 0, none⟩)]) rfl (((HC16'.out _ hS).mono fun e w1 q => ⟨_, q.1, rfl, q.2⟩)) ?_
                rintro v w1 ⟨rfl, rfl⟩
                refine ⟨hS, ?_⟩
                simp only [ap]
                refine hpu 6 (o := ({ dst := some 109, op := Op.binOp BinOp.eql 3 (Operand.tmp 104) (Operand.tmp 108) 3, type := 4, pos := "more.go:26", after := #[{ on := 1, ground := Ground.data }, { on := 5, ground := Ground.data }], guard := none } : Oper)) (.bool true) (by kernel_rfl) rfl rfl (fun _ _ _ h => h) rfl (by intro w hSw; go_simp) hS ?_
                simp only [ap]
                refine hpu 7 (o := ({ dst := some 110, op := Op.move (Operand.tmp 109), type := 4, pos := "more.go:26", after := #[{ on := 6, ground := Ground.data }, { on := 1, ground := Ground.chain }], guard := none } : Oper)) (.bool true) (by kernel_rfl) rfl rfl (fun _ _ _ h => h) rfl (by intro w hSw; go_simp) hS ?_
                simp only [ap]
                refine hpu 8 (o := ({ dst := some 111, op := Op.move (Operand.tmp 8), type := 38, pos := "more.go:26", after := #[{ on := 7, ground := Ground.guard }], guard := some (7, true) } : Oper)) (.pointer (some ⟨g1, 0, none⟩)) (by kernel_rfl) rfl rfl (fun _ _ _ h => h) rfl (by intro w hSw; go_simp) hS ?_
                simp only [ap]
                refine hpu 11 (o := ({ dst := some 114, op := Op.move (Operand.tmp 11), type := 3, pos := "more.go:26", after := #[{ on := 7, ground := Ground.guard }], guard := some (7, true) } : Oper)) (.int .i64 (m : Int)) (by kernel_rfl) rfl rfl (fun _ _ _ h => h) rfl (by intro w hSw; go_simp) hS ?_
                simp only [ap]
                refine hpu 12 (o := ({ dst := some 115, op := Op.binOp BinOp.add 3 (Operand.tmp 114) (Operand.const (Value.int IntKind.i64 1)) 3, type := 3, pos := "more.go:26", after := #[{ on := 11, ground := Ground.data }, { on := 7, ground := Ground.guard }], guard := some (7, true) } : Oper)) (.int .i64 ((m : Int) + 1)) (by kernel_rfl) rfl rfl (fun _ _ _ h => h) rfl (by intro w hSw; go_simp) hS ?_
                simp only [ap]
                refine h_call 9 ({ dst := some 112, op := Op.call { callee := Callee.value (Operand.func 21), args := #[Operand.tmp 111], argTypes := #[38] }, type := 39, pos := "more.go:26", after := #[{ on := 8, ground := Ground.data }, { on := 7, ground := Ground.chain }, { on := 7, ground := Ground.guard }], guard := some (7, true) } : Oper) (fun v w1 => ∃ A c, v = .slice A (m + 1) c ∧ Below V0.heap.size V0 w1) own21 rfl rfl rfl (by kernel_rfl) rfl (args := #[.pointer (some ⟨g1, 0, none⟩)]) rfl (((HC21'.out _ hS).mono fun e w1 q => by obtain ⟨A, c, ws, rfl, _, hb⟩ := q; exact ⟨_, rfl, A, c, rfl, hb⟩)) ?_
                rintro v W6 ⟨A6, c6, rfl, hb6⟩
                have hS := bt hS hb6
                refine ⟨hS, ?_⟩
                simp only [ap]
                refine hpu 10 (o := ({ dst := some 113, op := Op.call { callee := Callee.builtin Builtin.len, args := #[Operand.tmp 112], argTypes := #[39] }, type := 3, pos := "more.go:26", after := #[{ on := 9, ground := Ground.data }, { on := 7, ground := Ground.guard }], guard := some (7, true) } : Oper)) (.int .i64 ((m + 1 : Nat) : Int)) (by kernel_rfl) rfl rfl (fun _ _ _ h => h) rfl (by intro w hSw; go_simp) hS ?_
                simp only [ap]
                refine hpu 13 (o := ({ dst := some 116, op := Op.binOp BinOp.eql 3 (Operand.tmp 113) (Operand.tmp 115) 3, type := 4, pos := "more.go:26", after := #[{ on := 10, ground := Ground.data }, { on := 12, ground := Ground.data }, { on := 7, ground := Ground.guard }], guard := some (7, true) } : Oper)) (.bool true) (by kernel_rfl) rfl rfl (fun _ _ _ h => h) rfl (by intro w hSw; go_simp) hS ?_
                simp only [ap]
                refine hpu 14 (o := ({ dst := some 117, op := Op.pick (Operand.tmp 110) (Operand.tmp 116) (Operand.const (Value.bool false)), type := 4, pos := "more.go:26", after := #[{ on := 7, ground := Ground.data }, { on := 13, ground := Ground.data }], guard := none } : Oper)) (.bool true) (by kernel_rfl) rfl rfl (fun _ _ _ h => h) rfl (by intro w hSw; go_simp) hS ?_
                simp only [ap]
                refine hpu 15 (o := ({ dst := some 118, op := Op.move (Operand.tmp 117), type := 4, pos := "more.go:26", after := #[{ on := 14, ground := Ground.data }, { on := 9, ground := Ground.chain }], guard := none } : Oper)) (.bool true) (by kernel_rfl) rfl rfl (fun _ _ _ h => h) rfl (by intro w hSw; go_simp) hS ?_
                simp only [ap]
                refine hpu 16 (o := ({ dst := some 119, op := Op.fieldAddr 23 (Operand.tmp 12) 1, type := 0, pos := "more.go:26", after := #[{ on := 15, ground := Ground.guard }], guard := some (15, true) } : Oper)) (.pointer (some ⟨t12, 1, none⟩)) (by kernel_rfl) rfl rfl (fun _ _ _ h => h) rfl (by intro w hSw; go_simp) hS ?_
                simp only [ap]
                refine hpu 17 (o := ({ dst := some 120, op := Op.load 3 (Operand.tmp 119), type := 3, pos := "more.go:26", after := #[{ on := 16, ground := Ground.data }, { on := 15, ground := Ground.guard }], guard := some (15, true) } : Oper)) (.int .i64 ((m : Int) + 1)) (by kernel_rfl) rfl rfl (fun _ _ _ h => h) rfl (by intro w hSw; go_simp) hS ?_
                simp only [ap]
                refine hpu 18 (o := ({ dst := some 121, op := Op.move (Operand.tmp 11), type := 3, pos := "more.go:26", after := #[{ on := 15, ground := Ground.guard }], guard := some (15, true) } : Oper)) (.int .i64 (m : Int)) (by kernel_rfl) rfl rfl (fun _ _ _ h => h) rfl (by intro w hSw; go_simp) hS ?_
                simp only [ap]
                refine hpu 19 (o := ({ dst := some 122, op := Op.binOp BinOp.add 3 (Operand.tmp 121) (Operand.const (Value.int IntKind.i64 1)) 3, type := 3, pos := "more.go:26", after := #[{ on := 18, ground := Ground.data }, { on := 15, ground := Ground.guard }], guard := some (15, true) } : Oper)) (.int .i64 ((m : Int) + 1)) (by kernel_rfl) rfl rfl (fun _ _ _ h => h) rfl (by intro w hSw; go_simp) hS ?_
                simp only [ap]
                refine hpu 20 (o := ({ dst := some 123, op := Op.binOp BinOp.eql 3 (Operand.tmp 120) (Operand.tmp 122) 3, type := 4, pos := "more.go:26", after := #[{ on := 17, ground := Ground.data }, { on := 19, ground := Ground.data }, { on := 15, ground := Ground.guard }], guard := some (15, true) } : Oper)) (.bool true) (by kernel_rfl) rfl rfl (fun _ _ _ h => h) rfl (by intro w hSw; go_simp) hS ?_
                simp only [ap]
                refine hpu 21 (o := ({ dst := some 124, op := Op.pick (Operand.tmp 118) (Operand.tmp 123) (Operand.const (Value.bool false)), type := 4, pos := "more.go:26", after := #[{ on := 15, ground := Ground.data }, { on := 20, ground := Ground.data }], guard := none } : Oper)) (.bool true) (by kernel_rfl) rfl rfl (fun _ _ _ h => h) rfl (by intro w hSw; go_simp) hS ?_
                simp only [ap]
                refine hpu 22 (o := ({ dst := some 125, op := Op.move (Operand.tmp 124), type := 4, pos := "more.go:26", after := #[{ on := 21, ground := Ground.data }, { on := 15, ground := Ground.chain }], guard := none } : Oper)) (.bool true) (by kernel_rfl) rfl rfl (fun _ _ _ h => h) rfl (by intro w hSw; go_simp) hS ?_
                simp only [ap]
                refine hpu 23 (o := ({ dst := some 126, op := Op.move (Operand.tmp 8), type := 38, pos := "more.go:26", after := #[{ on := 22, ground := Ground.guard }], guard := some (22, true) } : Oper)) (.pointer (some ⟨g1, 0, none⟩)) (by kernel_rfl) rfl rfl (fun _ _ _ h => h) rfl (by intro w hSw; go_simp) hS ?_
                simp only [ap]
                refine hpu 24 (o := ({ dst := some 127, op := Op.load 23 (Operand.tmp 12), type := 23, pos := "more.go:26", after := #[{ on := 22, ground := Ground.guard }], guard := some (22, true) } : Oper)) (.agg #[.int .i64 3, .int .i64 ((m : Int) + 1)]) (by kernel_rfl) rfl rfl (fun _ _ _ h => h) rfl (by intro w hSw; go_simp) hS ?_
                simp only [ap]
                refine hpu 26 (o := ({ dst := some 129, op := Op.move (Operand.tmp 1), type := 3, pos := "more.go:26", after := #[{ on := 22, ground := Ground.guard }], guard := some (22, true) } : Oper)) (.int .i64 (N : Int)) (by kernel_rfl) rfl rfl (fun _ _ _ h => h) rfl (by intro w hSw; go_simp) hS ?_
                simp only [ap]
                refine h_call 25 ({ dst := some 128, op := Op.call { callee := Callee.value (Operand.func 18), args := #[Operand.tmp 126, Operand.tmp 127], argTypes := #[38, 23] }, type := 3, pos := "more.go:26", after := #[{ on := 23, ground := Ground.data }, { on := 24, ground := Ground.data }, { on := 22, ground := Ground.chain }, { on := 22, ground := Ground.guard }], guard := some (22, true) } : Oper) (fun v w1 => v = .int .i64 (N : Int) ∧ Below W6.heap.size W6 w1) own18 rfl rfl rfl (by kernel_rfl) rfl (args := #[.pointer (some ⟨g1, 0, none⟩), .agg #[.int .i64 3, .int .i64 ((m : Int) + 1)]]) rfl (((HC18'.out _ hS).mono fun e w1 q => ⟨_, q.1, rfl, q.2⟩)) ?_
                rintro v W7 ⟨rfl, hb7⟩
                have hS := bt hS hb7
                refine ⟨hS, ?_⟩
                simp only [ap]
                refine hpu 27 (o := ({ dst := some 130, op := Op.binOp BinOp.eql 3 (Operand.tmp 128) (Operand.tmp 129) 3, type := 4, pos := "more.go:26", after := #[{ on := 25, ground := Ground.data }, { on := 26, ground := Ground.data }, { on := 22, ground := Ground.guard }], guard := some (22, true) } : Oper)) (.bool true) (by kernel_rfl) rfl rfl (fun _ _ _ h => h) rfl (by intro w hSw; go_simp) hS ?_
                simp only [ap]
                refine hpu 28 (o := ({ dst := some 131, op := Op.pick (Operand.tmp 125) (Operand.tmp 130) (Operand.const (Value.bool false)), type := 4, pos := "more.go:26", after := #[{ on := 22, ground := Ground.data }, { on := 27, ground := Ground.data }], guard := none } : Oper)) (.bool true) (by kernel_rfl) rfl rfl (fun _ _ _ h => h) rfl (by intro w hSw; go_simp) hS ?_
                simp only [ap]
                refine hpu 29 (o := ({ dst := some 132, op := Op.move (Operand.tmp 131), type := 4, pos := "more.go:26", after := #[{ on := 28, ground := Ground.data }, { on := 25, ground := Ground.chain }], guard := none } : Oper)) (.bool true) (by kernel_rfl) rfl rfl (fun _ _ _ h => h) rfl (by intro w hSw; go_simp) hS ?_
                simp only [ap]
                refine hpu 30 (o := ({ dst := some 133, op := Op.move (Operand.tmp 16), type := 3, pos := "more.go:26", after := #[{ on := 29, ground := Ground.guard }], guard := some (29, true) } : Oper)) (.int .i64 2) (by kernel_rfl) rfl rfl (fun _ _ _ h => h) rfl (by intro w hSw; go_simp) hS ?_
                simp only [ap]
                refine hpu 31 (o := ({ dst := some 134, op := Op.binOp BinOp.eql 3 (Operand.tmp 133) (Operand.const (Value.int IntKind.i64 0)) 3, type := 4, pos := "more.go:26", after := #[{ on := 30, ground := Ground.data }, { on := 29, ground := Ground.guard }], guard := some (29, true) } : Oper)) (.bool false) (by kernel_rfl) rfl rfl (fun _ _ _ h => h) rfl (by intro w hSw; go_simp) hS ?_
                simp only [ap]
                refine hpu 32 (o := ({ dst := some 135, op := Op.move (Operand.tmp 17), type := 4, pos := "more.go:26", after := #[{ on := 29, ground := Ground.guard }], guard := some (29, true) } : Oper)) (.bool false) (by kernel_rfl) rfl rfl (fun _ _ _ h => h) rfl (by intro w hSw; go_simp) hS ?_
                simp only [ap]
                refine hpu 33 (o := ({ dst := some 136, op := Op.binOp BinOp.eql 4 (Operand.tmp 134) (Operand.tmp 135) 4, type := 4, pos := "more.go:26", after := #[{ on := 31, ground := Ground.data }, { on := 32, ground := Ground.data }, { on := 29, ground := Ground.guard }], guard := some (29, true) } : Oper)) (.bool true) (by kernel_rfl) rfl rfl (fun _ _ _ h => h) rfl (by intro w hSw; go_simp) hS ?_
                simp only [ap]
                refine hpu 34 (o := ({ dst := some 137, op := Op.pick (Operand.tmp 132) (Operand.tmp 136) (Operand.const (Value.bool false)), type := 4, pos := "more.go:26", after := #[{ on := 29, ground := Ground.data }, { on := 33, ground := Ground.data }], guard := none } : Oper)) (.bool true) (by kernel_rfl) rfl rfl (fun _ _ _ h => h) rfl (by intro w hSw; go_simp) hS ?_
                simp only [ap]
                refine hpu 35 (o := ({ dst := some 138, op := Op.move (Operand.tmp 137), type := 4, pos := "more.go:26", after := #[{ on := 34, ground := Ground.data }, { on := 29, ground := Ground.chain }], guard := none } : Oper)) (.bool true) (by kernel_rfl) rfl rfl (fun _ _ _ h => h) rfl (by intro w hSw; go_simp) hS ?_
                simp only [ap]
                refine hpu 36 (o := ({ dst := some 139, op := Op.move (Operand.tmp 17), type := 4, pos := "more.go:26", after := #[{ on := 35, ground := Ground.guard }], guard := some (35, true) } : Oper)) (.bool false) (by kernel_rfl) rfl rfl (fun _ _ _ h => h) rfl (by intro w hSw; go_simp) hS ?_
                simp only [ap]
                refine hpu 37 (o := ({ dst := some 140, op := Op.unOp UnOp.not 4 (Operand.tmp 139), type := 4, pos := "more.go:26", after := #[{ on := 36, ground := Ground.data }, { on := 35, ground := Ground.guard }], guard := some (35, true) } : Oper)) (.bool true) (by kernel_rfl) rfl rfl (fun _ _ _ h => h) rfl (by intro w hSw; go_simp) hS ?_
                simp only [ap]
                refine hpu 38 (o := ({ dst := some 141, op := Op.move (Operand.tmp 140), type := 4, pos := "more.go:26", after := #[{ on := 37, ground := Ground.data }, { on := 35, ground := Ground.chain }, { on := 35, ground := Ground.guard }], guard := some (35, true) } : Oper)) (.bool true) (by kernel_rfl) rfl rfl (fun _ _ _ h => h) rfl (by intro w hSw; go_simp) hS ?_
                simp only [ap]
                refine h_off 39 (by kernel_rfl) rfl rfl (fun _ _ _ h => h) rfl hS ?_
                simp only [ap]
                refine h_off 40 (by kernel_rfl) rfl rfl (fun _ _ _ h => h) rfl hS ?_
                simp only [ap]
                refine h_off 41 (by kernel_rfl) rfl rfl (fun _ _ _ h => h) rfl hS ?_
                simp only [ap]
                refine hpu 42 (o := ({ dst := some 145, op := Op.pick (Operand.tmp 141) (Operand.const (Value.bool true)) (Operand.tmp 144), type := 4, pos := "more.go:26", after := #[{ on := 38, ground := Ground.data }, { on := 41, ground := Ground.data }, { on := 35, ground := Ground.guard }], guard := some (35, true) } : Oper)) (.bool true) (by kernel_rfl) rfl rfl (fun _ _ _ h => h) rfl (by intro w hSw; go_simp) hS ?_
                simp only [ap]
                refine hpu 43 (o := ({ dst := some 146, op := Op.pick (Operand.tmp 138) (Operand.tmp 145) (Operand.const (Value.bool false)), type := 4, pos := "more.go:26", after := #[{ on := 35, ground := Ground.data }, { on := 42, ground := Ground.data }], guard := none } : Oper)) (.bool true) (by kernel_rfl) rfl rfl (fun _ _ _ h => h) rfl (by intro w hSw; go_simp) hS ?_
                simp only [ap]
                refine hpu 44 (o := ({ dst := some 147, op := Op.move (Operand.tmp 146), type := 4, pos := "more.go:26", after := #[{ on := 43, ground := Ground.data }, { on := 40, ground := Ground.chain }], guard := none } : Oper)) (.bool true) (by kernel_rfl) rfl rfl (fun _ _ _ h => h) rfl (by intro w hSw; go_simp) hS ?_
                simp only [ap]
                refine hpu 45 (o := ({ dst := some 148, op := Op.move (Operand.tmp 17), type := 4, pos := "more.go:26", after := #[{ on := 44, ground := Ground.guard }], guard := some (44, true) } : Oper)) (.bool false) (by kernel_rfl) rfl rfl (fun _ _ _ h => h) rfl (by intro w hSw; go_simp) hS ?_
                simp only [ap]
                refine hpu 46 (o := ({ dst := some 149, op := Op.move (Operand.tmp 148), type := 4, pos := "more.go:26", after := #[{ on := 45, ground := Ground.data }, { on := 44, ground := Ground.chain }, { on := 44, ground := Ground.guard }], guard := some (44, true) } : Oper)) (.bool false) (by kernel_rfl) rfl rfl (fun _ _ _ h => h) rfl (by intro w hSw; go_simp) hS ?_
                simp only [ap]
                refine hpu 47 (o := ({ dst := some 150, op := Op.move (Operand.tmp 16), type := 3, pos := "more.go:26", after := #[{ on := 46, ground := Ground.guard }], guard := some (46, false) } : Oper)) (.int .i64 2) (by kernel_rfl) rfl rfl (fun _ _ _ h => h) rfl (by intro w hSw; go_simp) hS ?_
                simp only [ap]
                refine hpu 48 (o := ({ dst := some 151, op := Op.binOp BinOp.eql 3 (Operand.tmp 150) (Operand.const (Value.int IntKind.i64 2)) 3, type := 4, pos := "more.go:26", after := #[{ on := 47, ground := Ground.data }, { on := 46, ground := Ground.guard }], guard := some (46, false) } : Oper)) (.bool true) (by kernel_rfl) rfl rfl (fun _ _ _ h => h) rfl (by intro w hSw; go_simp) hS ?_
                simp only [ap]
                refine hpu 49 (o := ({ dst := some 152, op := Op.pick (Operand.tmp 149) (Operand.const (Value.bool true)) (Operand.tmp 151), type := 4, pos := "more.go:26", after := #[{ on := 46, ground := Ground.data }, { on := 48, ground := Ground.data }, { on := 44, ground := Ground.guard }], guard := some (44, true) } : Oper)) (.bool true) (by kernel_rfl) rfl rfl (fun _ _ _ h => h) rfl (by intro w hSw; go_simp) hS ?_
                simp only [ap]
                refine hpu 50 (o := ({ dst := some 153, op := Op.pick (Operand.tmp 147) (Operand.tmp 152) (Operand.const (Value.bool false)), type := 4, pos := "more.go:26", after := #[{ on := 44, ground := Ground.data }, { on := 49, ground := Ground.data }], guard := none } : Oper)) (.bool true) (by kernel_rfl) rfl rfl (fun _ _ _ h => h) rfl (by intro w hSw; go_simp) hS ?_
                simp only [ap]
                refine hpu 51 (o := ({ dst := some 6, op := Op.assign (Operand.tmp 153), type := 4, pos := "more.go:26", after := #[{ on := 50, ground := Ground.data }, { on := 46, ground := Ground.chain }, { on := 0, ground := Ground.phase }, { on := 1, ground := Ground.phase }, { on := 2, ground := Ground.phase }, { on := 3, ground := Ground.phase }, { on := 4, ground := Ground.phase }, { on := 5, ground := Ground.phase }, { on := 6, ground := Ground.phase }, { on := 7, ground := Ground.phase }, { on := 8, ground := Ground.phase }, { on := 9, ground := Ground.phase }, { on := 10, ground := Ground.phase }, { on := 11, ground := Ground.phase }, { on := 12, ground := Ground.phase }, { on := 13, ground := Ground.phase }, { on := 14, ground := Ground.phase }, { on := 15, ground := Ground.phase }, { on := 16, ground := Ground.phase }, { on := 17, ground := Ground.phase }, { on := 18, ground := Ground.phase }, { on := 19, ground := Ground.phase }, { on := 20, ground := Ground.phase }, { on := 21, ground := Ground.phase }, { on := 22, ground := Ground.phase }, { on := 23, ground := Ground.phase }, { on := 24, ground := Ground.phase }, { on := 25, ground := Ground.phase }, { on := 26, ground := Ground.phase }, { on := 27, ground := Ground.phase }, { on := 28, ground := Ground.phase }, { on := 29, ground := Ground.phase }, { on := 30, ground := Ground.phase }, { on := 31, ground := Ground.phase }, { on := 32, ground := Ground.phase }, { on := 33, ground := Ground.phase }, { on := 34, ground := Ground.phase }, { on := 35, ground := Ground.phase }, { on := 36, ground := Ground.phase }, { on := 37, ground := Ground.phase }, { on := 38, ground := Ground.phase }, { on := 39, ground := Ground.phase }, { on := 40, ground := Ground.phase }, { on := 41, ground := Ground.phase }, { on := 42, ground := Ground.phase }, { on := 43, ground := Ground.phase }, { on := 44, ground := Ground.phase }, { on := 45, ground := Ground.phase }, { on := 46, ground := Ground.phase }, { on := 47, ground := Ground.phase }, { on := 48, ground := Ground.phase }, { on := 49, ground := Ground.phase }, { on := 50, ground := Ground.phase }], guard := none } : Oper)) (.bool true) (by kernel_rfl) rfl rfl (fun _ _ _ h => h) rfl (by intro w hSw; go_simp) hS ?_
                simp only [ap]
                refine wpAnyH_done (by kernel_rfl) ?_ _
                have HE := Lib.hid (bt HB5.out hS)
                clear hw1 hw2 hw3 k1 k2 k3 k4 l0 l1 l2 l3 q1 hS
                go_wp2
                go_ret
                exact ⟨rfl, HE.out⟩
            · have hkx := HKX.out
              rw [if_neg (fun q => hi0 q.1)] at hkx
              simp only [Prod.mk.injEq] at hkx
              obtain ⟨⟨rfl, rfl⟩, rfl⟩ := hkx
              go_upto_region 16 with (fail)
              obtain ⟨hw1, hw2, hw3, k1, k2, k3, k4⟩ := HW.out
              obtain ⟨l0, l1, l2, l3⟩ := HLL.out
              have q1 := run_eql23
              refine wp_region_held (S := fun w' => Below W5.heap.size W5 w') (by kernel_rfl) ?_
              have hS : Below W5.heap.size W5 ({ W5 with drawn := W5.drawn + 1 } : World) := (Below.refl _ _).drew
              generalize ({ W5 with drawn := W5.drawn + 1 } : World) = V0 at *
              refine hpu 0 (o := ({ dst := some 103, op := Op.move (Operand.tmp 8), type := 38, pos := "more.go:26", after := #[], guard := none } : Oper)) (.pointer (some ⟨g1, 0, none⟩)) (by kernel_rfl) rfl rfl (fun _ _ _ h => h) rfl (by intro w hSw; go_simp) hS ?_
              simp only [ap]
              refine hpu 2 (o := ({ dst := some 105, op := Op.move (Operand.tmp 10), type := 3, pos := "more.go:26", after := #[], guard := none } : Oper)) (.int .i64 z) (by kernel_rfl) rfl rfl (fun _ _ _ h => h) rfl (by intro w hSw; go_simp) hS ?_
              simp only [ap]
              refine hpu 3 (o := ({ dst := some 106, op := Op.move (Operand.tmp 1), type := 3, pos := "more.go:26", after := #[], guard := none } : Oper)) (.int .i64 (N : Int)) (by kernel_rfl) rfl rfl (fun _ _ _ h => h) rfl (by intro w hSw; go_simp) hS ?_
              simp only [ap]
              refine hpu 4 (o := ({ dst := some 107, op := Op.binOp BinOp.add 3 (Operand.tmp 105) (Operand.tmp 106) 3, type := 3, pos := "more.go:26", after := #[{ on := 2, ground := Ground.data }, { on := 3, ground := Ground.data }], guard := none } : Oper)) (.int .i64 (z + (N : Int))) (by kernel_rfl) rfl rfl (fun _ _ _ h => h) rfl (by intro w hSw; go_simp) hS ?_
              simp only [ap]
              refine hpu 5 (o := ({ dst := some 108, op := Op.binOp BinOp.add 3 (Operand.tmp 107) (Operand.const (Value.int IntKind.i64 1)) 3, type := 3, pos := "more.go:26", after := #[{ on := 4, ground := Ground.data }], guard := none } : Oper)) (.int .i64 (z + (N : Int) + 1)) (by kernel_rfl) rfl rfl (fun _ _ _ h => h) rfl (by intro w hSw; go_simp) hS ?_
              simp only [ap]
              refine h_call 1 ({ dst := some 104, op := Op.call { callee := Callee.value (Operand.func 16), args := #[Operand.tmp 103], argTypes := #[38] }, type := 3, pos := "more.go:26", after := #[{ on := 0, ground := Ground.data }], guard := none } : Oper) (fun v w1 => v = .int .i64 (z + (N : Int) + 1) ∧ V0 = w1) own16 rfl rfl rfl (by kernel_rfl) rfl (args := #[.pointer (some ⟨g1, 0, none⟩)]) rfl (((HC16'.out _ hS).mono fun e w1 q => ⟨_, q.1, rfl, q.2⟩)) ?_
              rintro v w1 ⟨rfl, rfl⟩
              refine ⟨hS, ?_⟩
              simp only [ap]
              refine hpu 6 (o := ({ dst := some 109, op := Op.binOp BinOp.eql 3 (Operand.tmp 104) (Operand.tmp 108) 3, type := 4, pos := "more.go:26", after := #[{ on := 1, ground := Ground.data }, { on := 5, ground := Ground.data }], guard := none } : Oper)) (.bool true) (by kernel_rfl) rfl rfl (fun _ _ _ h => h) rfl (by intro w hSw; go_simp) hS ?_
              simp only [ap]
              refine hpu 7 (o := ({ dst := some 110, op := Op.move (Operand.tmp 109), type := 4, pos := "more.go:26", after := #[{ on := 6, ground := Ground.data }, { on := 1, ground := Ground.chain }], guard := none } : Oper)) (.bool true) (by kernel_rfl) rfl rfl (fun _ _ _ h => h) rfl (by intro w hSw; go_simp) hS ?_
              simp only [ap]
              refine hpu 8 (o := ({ dst := some 111, op := Op.move (Operand.tmp 8), type := 38, pos := "more.go:26", after := #[{ on := 7, ground := Ground.guard }], guard := some (7, true) } : Oper)) (.pointer (some ⟨g1, 0, none⟩)) (by kernel_rfl) rfl rfl (fun _ _ _ h => h) rfl (by intro w hSw; go_simp) hS ?_
              simp only [ap]
              refine hpu 11 (o := ({ dst := some 114, op := Op.move (Operand.tmp 11), type := 3, pos := "more.go:26", after := #[{ on := 7, ground := Ground.guard }], guard := some (7, true) } : Oper)) (.int .i64 (m : Int)) (by kernel_rfl) rfl rfl (fun _ _ _ h => h) rfl (by intro w hSw; go_simp) hS ?_
              simp only [ap]
              refine hpu 12 (o := ({ dst := some 115, op := Op.binOp BinOp.add 3 (Operand.tmp 114) (Operand.const (Value.int IntKind.i64 1)) 3, type := 3, pos := "more.go:26", after := #[{ on := 11, ground := Ground.data }, { on := 7, ground := Ground.guard }], guard := some (7, true) } : Oper)) (.int .i64 ((m : Int) + 1)) (by kernel_rfl) rfl rfl (fun _ _ _ h => h) rfl (by intro w hSw; go_simp) hS ?_
              simp only [ap]
              refine h_call 9 ({ dst := some 112, op := Op.call { callee := Callee.value (Operand.func 21), args := #[Operand.tmp 111], argTypes := #[38] }, type := 39, pos := "more.go:26", after := #[{ on := 8, ground := Ground.data }, { on := 7, ground := Ground.chain }, { on := 7, ground := Ground.guard }], guard := some (7, true) } : Oper) (fun v w1 => ∃ A c, v = .slice A (m + 1) c ∧ Below V0.heap.size V0 w1) own21 rfl rfl rfl (by kernel_rfl) rfl (args := #[.pointer (some ⟨g1, 0, none⟩)]) rfl (((HC21'.out _ hS).mono fun e w1 q => by obtain ⟨A, c, ws, rfl, _, hb⟩ := q; exact ⟨_, rfl, A, c, rfl, hb⟩)) ?_
              rintro v W6 ⟨A6, c6, rfl, hb6⟩
              have hS := bt hS hb6
              refine ⟨hS, ?_⟩
              simp only [ap]
              refine hpu 10 (o := ({ dst := some 113, op := Op.call { callee := Callee.builtin Builtin.len, args := #[Operand.tmp 112], argTypes := #[39] }, type := 3, pos := "more.go:26", after := #[{ on := 9, ground := Ground.data }, { on := 7, ground := Ground.guard }], guard := some (7, true) } : Oper)) (.int .i64 ((m + 1 : Nat) : Int)) (by kernel_rfl) rfl rfl (fun _ _ _ h => h) rfl (by intro w hSw; go_simp) hS ?_
              simp only [ap]
              refine hpu 13 (o := ({ dst := some 116, op := Op.binOp BinOp.eql 3 (Operand.tmp 113) (Operand.tmp 115) 3, type := 4, pos := "more.go:26", after := #[{ on := 10, ground := Ground.data }, { on := 12, ground := Ground.data }, { on := 7, ground := Ground.guard }], guard := some (7, true) } : Oper)) (.bool true) (by kernel_rfl) rfl rfl (fun _ _ _ h => h) rfl (by intro w hSw; go_simp) hS ?_
              simp only [ap]
              refine hpu 14 (o := ({ dst := some 117, op := Op.pick (Operand.tmp 110) (Operand.tmp 116) (Operand.const (Value.bool false)), type := 4, pos := "more.go:26", after := #[{ on := 7, ground := Ground.data }, { on := 13, ground := Ground.data }], guard := none } : Oper)) (.bool true) (by kernel_rfl) rfl rfl (fun _ _ _ h => h) rfl (by intro w hSw; go_simp) hS ?_
              simp only [ap]
              refine hpu 15 (o := ({ dst := some 118, op := Op.move (Operand.tmp 117), type := 4, pos := "more.go:26", after := #[{ on := 14, ground := Ground.data }, { on := 9, ground := Ground.chain }], guard := none } : Oper)) (.bool true) (by kernel_rfl) rfl rfl (fun _ _ _ h => h) rfl (by intro w hSw; go_simp) hS ?_
              simp only [ap]
              refine hpu 16 (o := ({ dst := some 119, op := Op.fieldAddr 23 (Operand.tmp 12) 1, type := 0, pos := "more.go:26", after := #[{ on := 15, ground := Ground.guard }], guard := some (15, true) } : Oper)) (.pointer (some ⟨t12, 1, none⟩)) (by kernel_rfl) rfl rfl (fun _ _ _ h => h) rfl (by intro w hSw; go_simp) hS ?_
              simp only [ap]
              refine hpu 17 (o := ({ dst := some 120, op := Op.load 3 (Operand.tmp 119), type := 3, pos := "more.go:26", after := #[{ on := 16, ground := Ground.data }, { on := 15, ground := Ground.guard }], guard := some (15, true) } : Oper)) (.int .i64 ((m : Int) + 1)) (by kernel_rfl) rfl rfl (fun _ _ _ h => h) rfl (by intro w hSw; go_simp) hS ?_
              simp only [ap]
              refine hpu 18 (o := ({ dst := some 121, op := Op.move (Operand.tmp 11), type := 3, pos := "more.go:26", after := #[{ on := 15, ground := Ground.guard }], guard := some (15, true) } : Oper)) (.int .i64 (m : Int)) (by kernel_rfl) rfl rfl (fun _ _ _ h => h) rfl (by intro w hSw; go_simp) hS ?_
              simp only [ap]
              refine hpu 19 (o := ({ dst := some 122, op := Op.binOp BinOp.add 3 (Operand.tmp 121) (Operand.const (Value.int IntKind.i64 1)) 3, type := 3, pos := "more.go:26", after := #[{ on := 18, ground := Ground.data }, { on := 15, ground := Ground.guard }], guard := some (15, true) } : Oper)) (.int .i64 ((m : Int) + 1)) (by kernel_rfl) rfl rfl (fun _ _ _ h => h) rfl (by intro w hSw; go_simp) hS ?_
              simp only [ap]
              refine hpu 20 (o := ({ dst := some 123, op := Op.binOp BinOp.eql 3 (Operand.tmp 120) (Operand.tmp 122) 3, type := 4, pos := "more.go:26", after := #[{ on := 17, ground := Ground.data }, { on := 19, ground := Ground.data }, { on := 15, ground := Ground.guard }], guard := some (15, true) } : Oper)) (.bool true) (by kernel_rfl) rfl rfl (fun _ _ _ h => h) rfl (by intro w hSw; go_simp) hS ?_
              simp only [ap]
              refine hpu 21 (o := ({ dst := some 124, op := Op.pick (Operand.tmp 118) (Operand.tmp 123) (Operand.const (Value.bool false)), type := 4, pos := "more.go:26", after := #[{ on := 15, ground := Ground.data }, { on := 20, ground := Ground.data }], guard := none } : Oper)) (.bool true) (by kernel_rfl) rfl rfl (fun _ _ _ h => h) rfl (by intro w hSw; go_simp) hS ?_
              simp only [ap]
              refine hpu 22 (o := ({ dst := some 125, op := Op.move (Operand.tmp 124), type := 4, pos := "more.go:26", after := #[{ on := 21, ground := Ground.data }, { on := 15, ground := Ground.chain }], guard := none } : Oper)) (.bool true) (by kernel_rfl) rfl rfl (fun _ _ _ h => h) rfl (by intro w hSw; go_simp) hS ?_
              simp only [ap]
              refine hpu 23 (o := ({ dst := some 126, op := Op.move (Operand.tmp 8), type := 38, pos := "more.go:26", after := #[{ on := 22, ground := Ground.guard }], guard := some (22, true) } : Oper)) (.pointer (some ⟨g1, 0, none⟩)) (by kernel_rfl) rfl rfl (fun _ _ _ h => h) rfl (by intro w hSw; go_simp) hS ?_
              simp only [ap]
              refine hpu 24 (o := ({ dst := some 127, op := Op.load 23 (Operand.tmp 12), type := 23, pos := "more.go:26", after := #[{ on := 22, ground := Ground.guard }], guard := some (22, true) } : Oper)) (.agg #[.int .i64 3, .int .i64 ((m : Int) + 1)]) (by kernel_rfl) rfl rfl (fun _ _ _ h => h) rfl (by intro w hSw; go_simp) hS ?_
              simp only [ap]
              refine hpu 26 (o := ({ dst := some 129, op := Op.move (Operand.tmp 1), type := 3, pos := "more.go:26", after := #[{ on := 22, ground := Ground.guard }], guard := some (22, true) } : Oper)) (.int .i64 (N : Int)) (by kernel_rfl) rfl rfl (fun _ _ _ h => h) rfl (by intro w hSw; go_simp) hS ?_
              simp only [ap]
              refine h_call 25 ({ dst := some 128, op := Op.call { callee := Callee.value (Operand.func 18), args := #[Operand.tmp 126, Operand.tmp 127], argTypes := #[38, 23] }, type := 3, pos := "more.go:26", after := #[{ on := 23, ground := Ground.data }, { on := 24, ground := Ground.data }, { on := 22, ground := Ground.chain }, { on := 22, ground := Ground.guard }], guard := some (22, true) } : Oper) (fun v w1 => v = .int .i64 (N : Int) ∧ Below W6.heap.size W6 w1) own18 rfl rfl rfl (by kernel_rfl) rfl (args := #[.pointer (some ⟨g1, 0, none⟩), .agg #[.int .i64 3, .int .i64 ((m : Int) + 1)]]) rfl (((HC18'.out _ hS).mono fun e w1 q => ⟨_, q.1, rfl, q.2⟩)) ?_
              rintro v W7 ⟨rfl, hb7⟩
              have hS := bt hS hb7
              refine ⟨hS, ?_⟩
              simp only [ap]
              refine hpu 27 (o := ({ dst := some 130, op := Op.binOp BinOp.eql 3 (Operand.tmp 128) (Operand.tmp 129) 3, type := 4, pos := "more.go:26", after := #[{ on := 25, ground := Ground.data }, { on := 26, ground := Ground.data }, { on := 22, ground := Ground.guard }], guard := some (22, true) } : Oper)) (.bool true) (by kernel_rfl) rfl rfl (fun _ _ _ h => h) rfl (by intro w hSw; go_simp) hS ?_
              simp only [ap]
              refine hpu 28 (o := ({ dst := some 131, op := Op.pick (Operand.tmp 125) (Operand.tmp 130) (Operand.const (Value.bool false)), type := 4, pos := "more.go:26", after := #[{ on := 22, ground := Ground.data }, { on := 27, ground := Ground.data }], guard := none } : Oper)) (.bool true) (by kernel_rfl) rfl rfl (fun _ _ _ h => h) rfl (by intro w hSw; go_simp) hS ?_
              simp only [ap]
              refine hpu 29 (o := ({ dst := some 132, op := Op.move (Operand.tmp 131), type := 4, pos := "more.go:26", after := #[{ on := 28, ground := Ground.data }, { on := 25, ground := Ground.chain }], guard := none } : Oper)) (.bool true) (by kernel_rfl) rfl rfl (fun _ _ _ h => h) rfl (by intro w hSw; go_simp) hS ?_
              simp only [ap]
              refine hpu 30 (o := ({ dst := some 133, op := Op.move (Operand.tmp 16), type := 3, pos := "more.go:26", after := #[{ on := 29, ground := Ground.guard }], guard := some (29, true) } : Oper)) (.int .i64 2) (by kernel_rfl) rfl rfl (fun _ _ _ h => h) rfl (by intro w hSw; go_simp) hS ?_
              simp only [ap]
              refine hpu 31 (o := ({ dst := some 134, op := Op.binOp BinOp.eql 3 (Operand.tmp 133) (Operand.const (Value.int IntKind.i64 0)) 3, type := 4, pos := "more.go:26", after := #[{ on := 30, ground := Ground.data }, { on := 29, ground := Ground.guard }], guard := some (29, true) } : Oper)) (.bool false) (by kernel_rfl) rfl rfl (fun _ _ _ h => h) rfl (by intro w hSw; go_simp) hS ?_
              simp only [ap]
              refine hpu 32 (o := ({ dst := some 135, op := Op.move (Operand.tmp 17), type := 4, pos := "more.go:26", after := #[{ on := 29, ground := Ground.guard }], guard := some (29, true) } : Oper)) (.bool false) (by kernel_rfl) rfl rfl (fun _ _ _ h => h) rfl (by intro w hSw; go_simp) hS ?_
              simp only [ap]
              refine hpu 33 (o := ({ dst := some 136, op := Op.binOp BinOp.eql 4 (Operand.tmp 134) (Operand.tmp 135) 4, type := 4, pos := "more.go:26", after := #[{ on := 31, ground := Ground.data }, { on := 32, ground := Ground.data }, { on := 29, ground := Ground.guard }], guard := some (29, true) } : Oper)) (.bool true) (by kernel_rfl) rfl rfl (fun _ _ _ h => h) rfl (by intro w hSw; go_simp) hS ?_
              simp only [ap]
              refine hpu 34 (o := ({ dst := some 137, op := Op.pick (Operand.tmp 132) (Operand.tmp 136) (Operand.const (Value.bool false)), type := 4, pos := "more.go:26", after := #[{ on := 29, ground := Ground.data }, { on := 33, ground := Ground.data }], guard := none } : Oper)) (.bool true) (by kernel_rfl) rfl rfl (fun _ _ _ h => h) rfl (by intro w hSw; go_simp) hS ?_
              simp only [ap]
              refine hpu 35 (o := ({ dst := some 138, op := Op.move (Operand.tmp 137), type := 4, pos := "more.go:26", after := #[{ on := 34, ground := Ground.data }, { on := 29, ground := Ground.chain }], guard := none } : Oper)) (.bool true) (by kernel_rfl) rfl rfl (fun _ _ _ h => h) rfl (by intro w hSw; go_simp) hS ?_
              simp only [ap]
              refine hpu 36 (o := ({ dst := some 139, op := Op.move (Operand.tmp 17), type := 4, pos := "more.go:26", after := #[{ on := 35, ground := Ground.guard }], guard := some (35, true) } : Oper)) (.bool false) (by kernel_rfl) rfl rfl (fun _ _ _ h => h) rfl (by intro w hSw; go_simp) hS ?_
              simp only [ap]
              refine hpu 37 (o := ({ dst := some 140, op := Op.unOp UnOp.not 4 (Operand.tmp 139), type := 4, pos := "more.go:26", after := #[{ on := 36, ground := Ground.data }, { on := 35, ground := Ground.guard }], guard := some (35, true) } : Oper)) (.bool true) (by kernel_rfl) rfl rfl (fun _ _ _ h => h) rfl (by intro w hSw; go_simp) hS ?_
              simp only [ap]
              refine hpu 38 (o := ({ dst := some 141, op := Op.move (Operand.tmp 140), type := 4, pos := "more.go:26", after := #[{ on := 37, ground := Ground.data }, { on := 35, ground := Ground.chain }, { on := 35, ground := Ground.guard }], guard := some (35, true) } : Oper)) (.bool true) (by kernel_rfl) rfl rfl (fun _ _ _ h => h) rfl (by intro w hSw; go_simp) hS ?_
              simp only [ap]
              refine h_off 39 (by kernel_rfl) rfl rfl (fun _ _ _ h => h) rfl hS ?_
              simp only [ap]
              refine h_off 40 (by kernel_rfl) rfl rfl (fun _ _ _ h => h) rfl hS ?_
              simp only [ap]
              refine h_off 41 (by kernel_rfl) rfl rfl (fun _ _ _ h => h) rfl hS ?_
              simp only [ap]
              refine hpu 42 (o := ({ dst := some 145, op := Op.pick (Operand.tmp 141) (Operand.const (Value.bool true)) (Operand.tmp 144), type := 4, pos := "more.go:26", after := #[{ on := 38, ground := Ground.data }, { on := 41, ground := Ground.data }, { on := 35, ground := Ground.guard }], guard := some (35, true) } : Oper)) (.bool true) (by kernel_rfl) rfl rfl (fun _ _ _ h => h) rfl (by intro w hSw; go_simp) hS ?_
              simp only [ap]
              refine hpu 43 (o := ({ dst := some 146, op := Op.pick (Operand.tmp 138) (Operand.tmp 145) (Operand.const (Value.bool false)), type := 4, pos := "more.go:26", after := #[{ on := 35, ground := Ground.data }, { on := 42, ground := Ground.data }], guard := none } : Oper)) (.bool true) (by kernel_rfl) rfl rfl (fun _ _ _ h => h) rfl (by intro w hSw; go_simp) hS ?_
              simp only [ap]
              refine hpu 44 (o := ({ dst := some 147, op := Op.move (Operand.tmp 146), type := 4, pos := "more.go:26", after := #[{ on := 43, ground := Ground.data }, { on := 40, ground := Ground.chain }], guard := none } : Oper)) (.bool true) (by kernel_rfl) rfl rfl (fun _ _ _ h => h) rfl (by intro w hSw; go_simp) hS ?_
              simp only [ap]
              refine hpu 45 (o := ({ dst := some 148, op := Op.move (Operand.tmp 17), type := 4, pos := "more.go:26", after := #[{ on := 44, ground := Ground.guard }], guard := some (44, true) } : Oper)) (.bool false) (by kernel_rfl) rfl rfl (fun _ _ _ h => h) rfl (by intro w hSw; go_simp) hS ?_
              simp only [ap]
              refine hpu 46 (o := ({ dst := some 149, op := Op.move (Operand.tmp 148), type := 4, pos := "more.go:26", after := #[{ on := 45, ground := Ground.data }, { on := 44, ground := Ground.chain }, { on := 44, ground := Ground.guard }], guard := some (44, true) } : Oper)) (.bool false) (by kernel_rfl) rfl rfl (fun _ _ _ h => h) rfl (by intro w hSw; go_simp) hS ?_
              simp only [ap]
              refine hpu 47 (o := ({ dst := some 150, op := Op.move (Operand.tmp 16), type := 3, pos := "more.go:26", after := #[{ on := 46, ground := Ground.guard }], guard := some (46, false) } : Oper)) (.int .i64 2) (by kernel_rfl) rfl rfl (fun _ _ _ h => h) rfl (by intro w hSw; go_simp) hS ?_
              simp only [ap]
              refine hpu 48 (o := ({ dst := some 151, op := Op.binOp BinOp.eql 3 (Operand.tmp 150) (Operand.const (Value.int IntKind.i64 2)) 3, type := 4, pos := "more.go:26", after := #[{ on := 47, ground := Ground.data }, { on := 46, ground := Ground.guard }], guard := some (46, false) } : Oper)) (.bool true) (by kernel_rfl) rfl rfl (fun _ _ _ h => h) rfl (by intro w hSw; go_simp) hS ?_
              simp only [ap]
              refine hpu 49 (o := ({ dst := some 152, op := Op.pick (Operand.tmp 149) (Operand.const (Value.bool true)) (Operand.tmp 151), type := 4, pos := "more.go:26", after := #[{ on := 46, ground := Ground.data }, { on := 48, ground := Ground.data }, { on := 44, ground := Ground.guard }], guard := some (44, true) } : Oper)) (.bool true) (by kernel_rfl) rfl rfl (fun _ _ _ h => h) rfl (by intro w hSw; go_simp) hS ?_
              simp only [ap]
              refine hpu 50 (o := ({ dst := some 153, op := Op.pick (Operand.tmp 147) (Operand.tmp 152) (Operand.const (Value.bool false)), type := 4, pos := "more.go:26", after := #[{ on := 44, ground := Ground.data }, { on := 49, ground := Ground.data }], guard := none } : Oper)) (.bool true) (by kernel_rfl) rfl rfl (fun _ _ _ h => h) rfl (by intro w hSw; go_simp) hS ?_
              simp only [ap]
              refine hpu 51 (o := ({ dst := some 6, op := Op.assign (Operand.tmp 153), type := 4, pos := "more.go:26", after := #[{ on := 50, ground := Ground.data }, { on := 46, ground := Ground.chain }, { on := 0, ground := Ground.phase }, { on := 1, ground := Ground.phase }, { on := 2, ground := Ground.phase }, { on := 3, ground := Ground.phase }, { on := 4, ground := Ground.phase }, { on := 5, ground := Ground.phase }, { on := 6, ground := Ground.phase }, { on := 7, ground := Ground.phase }, { on := 8, ground := Ground.phase }, { on := 9, ground := Ground.phase }, { on := 10, ground := Ground.phase }, { on := 11, ground := Ground.phase }, { on := 12, ground := Ground.phase }, { on := 13, ground := Ground.phase }, { on := 14, ground := Ground.phase }, { on := 15, ground := Ground.phase }, { on := 16, ground := Ground.phase }, { on := 17, ground := Ground.phase }, { on := 18, ground := Ground.phase }, { on := 19, ground := Ground.phase }, { on := 20, ground := Ground.phase }, { on := 21, ground := Ground.phase }, { on := 22, ground := Ground.phase }, { on := 23, ground := Ground.phase }, { on := 24, ground := Ground.phase }, { on := 25, ground := Ground.phase }, { on := 26, ground := Ground.phase }, { on := 27, ground := Ground.phase }, { on := 28, ground := Ground.phase }, { on := 29, ground := Ground.phase }, { on := 30, ground := Ground.phase }, { on := 31, ground := Ground.phase }, { on := 32, ground := Ground.phase }, { on := 33, ground := Ground.phase }, { on := 34, ground := Ground.phase }, { on := 35, ground := Ground.phase }, { on := 36, ground := Ground.phase }, { on := 37, ground := Ground.phase }, { on := 38, ground := Ground.phase }, { on := 39, ground := Ground.phase }, { on := 40, ground := Ground.phase }, { on := 41, ground := Ground.phase }, { on := 42, ground := Ground.phase }, { on := 43, ground := Ground.phase }, { on := 44, ground := Ground.phase }, { on := 45, ground := Ground.phase }, { on := 46, ground := Ground.phase }, { on := 47, ground := Ground.phase }, { on := 48, ground := Ground.phase }, { on := 49, ground := Ground.phase }, { on := 50, ground := Ground.phase }], guard := none } : Oper)) (.bool true) (by kernel_rfl) rfl rfl (fun _ _ _ h => h) rfl (by intro w hSw; go_simp) hS ?_
              simp only [ap]
              refine wpAnyH_done (by kernel_rfl) ?_ _
              have HE := Lib.hid (bt HB5.out hS)
              clear hw1 hw2 hw3 k1 k2 k3 k4 l0 l1 l2 l3 q1 hS
              go_wp2
              go_ret
              exact ⟨rfl, HE.out⟩
end Go.Proofs.Ytpeodpgihmcghaa
