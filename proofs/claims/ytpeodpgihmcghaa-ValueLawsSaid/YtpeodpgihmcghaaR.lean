/- PROVED here: the law ValueLaws, walked. No condition but those in each theorem's own head. -/
import Derived.Test.YtpeodpgihmcghaaQ
namespace Go.Proofs.Ytpeodpgihmcghaa
open Go Go.RowKit Go.Sort

theorem wrap64_eq (x : Int) : ∃ k : Int, wrap64 x = x + 18446744073709551616 * k := ⟨-((x + 9223372036854775808) / 18446744073709551616), by unfold wrap64; omega⟩
theorem wrap64_shift (x k : Int) : wrap64 (x + 18446744073709551616 * k) = wrap64 x := by unfold wrap64; omega
theorem laws_div {a b qk qn qe rk rn re pk pn pe sk sn se : Int} {qo ro po so : Bool} (ha : -9223372036854775808 ≤ a ∧ a ≤ 9223372036854775807)
    (h1 : binR ⟨#[47]⟩ 1 a 1 b = ((qk, qn), qe, qo)) (h2 : binR ⟨#[37]⟩ 1 a 1 b = ((rk, rn), re, ro)) (h3 : binR ⟨#[42]⟩ qk qn 1 b = ((pk, pn), pe, po)) (h4 : binR ⟨#[43]⟩ pk pn rk rn = ((sk, sn), se, so)) :
    qe = re ∧ (qe != 0) = (b == 0) ∧ (b ≠ 0 → sk = 1 ∧ sn = a) := by
  rw [show binR ⟨#[47]⟩ 1 a 1 b = divR (wrap64 (a.tdiv b)) b from rfl] at h1
  rw [show binR ⟨#[37]⟩ 1 a 1 b = divR (a.tmod b) b from rfl] at h2
  unfold divR at h1 h2
  by_cases hb : b = 0
  · rw [if_pos hb] at h1 h2
    simp only [Prod.mk.injEq] at h1 h2
    obtain ⟨_, h1, _⟩ := h1
    obtain ⟨_, h2, _⟩ := h2
    subst h1 h2 hb
    exact ⟨rfl, rfl, fun h => absurd rfl h⟩
  · rw [if_neg hb] at h1 h2
    simp only [Prod.mk.injEq] at h1 h2
    obtain ⟨⟨q1, q2⟩, q3, _⟩ := h1
    obtain ⟨⟨r1, r2⟩, r3, _⟩ := h2
    subst q1 q2 q3 r1 r2 r3
    rw [show binR ⟨#[42]⟩ 1 (wrap64 (a.tdiv b)) 1 b = ((1, wrap64 (wrap64 (a.tdiv b) * b)), 0, true) from rfl] at h3
    simp only [Prod.mk.injEq] at h3
    obtain ⟨⟨p1, p2⟩, _⟩ := h3
    subst p1 p2
    rw [show binR ⟨#[43]⟩ 1 (wrap64 (wrap64 (a.tdiv b) * b)) 1 (a.tmod b) = ((1, wrap64 (wrap64 (wrap64 (a.tdiv b) * b) + a.tmod b)), 0, true) from rfl] at h4
    simp only [Prod.mk.injEq] at h4
    obtain ⟨⟨s1, s2⟩, _⟩ := h4
    refine ⟨rfl, by rw [beq_eq_false_iff_ne.2 hb]; rfl, fun _ => ⟨s1.symm, ?_⟩⟩
    subst s2
    obtain ⟨k1, e1⟩ := wrap64_eq (a.tdiv b)
    rw [e1, Int.add_mul]
    rw [show 18446744073709551616 * k1 * b = 18446744073709551616 * (k1 * b) from Int.mul_assoc _ _ _, wrap64_shift]
    obtain ⟨k2, e2⟩ := wrap64_eq (a.tdiv b * b)
    rw [e2]
    have h5 := Int.mul_tdiv_add_tmod a b
    rw [show a.tdiv b * b + 18446744073709551616 * k2 + a.tmod b = a + 18446744073709551616 * k2 by rw [Int.mul_comm b] at h5; omega, wrap64_shift]
    unfold wrap64; omega
theorem laws_neg (a : Int) (ha : -9223372036854775808 ≤ a ∧ a ≤ 9223372036854775807) : wrap64 (-(wrap64 (-a))) = a := by unfold wrap64; omega
theorem laws_cmp (a b : Int) : tB (decide (a < b)) + tB (a == b) + tB (decide (b < a)) = 1 ∧ tB (tB (a == b) == 0) = tB (a != b) ∧ tB ((tB (decide (a < b)) != 0) || (tB (decide (b < a)) != 0)) = tB (a != b) := by
  rcases Int.lt_trichotomy a b with h | h | h
  · rw [decide_eq_true h, decide_eq_false (show ¬ b < a by omega), beq_eq_false_iff_ne.2 (show a ≠ b by omega), show (a != b) = true by simp; omega]; decide
  · subst h
    rw [decide_eq_false (show ¬ a < a by omega)]; simp [tB]
  · rw [decide_eq_true h, decide_eq_false (show ¬ a < b by omega), beq_eq_false_iff_ne.2 (show a ≠ b by omega), show (a != b) = true by simp; omega]; decide
theorem tB_01 (b : Bool) : 0 ≤ tB b ∧ tB b ≤ 1 := by cases b <;> decide
set_option maxRecDepth 100000 in
set_option maxHeartbeats 8000000 in
theorem valueLaws_w (a b : Int) (w : World) (ha : -9223372036854775808 ≤ a ∧ a ≤ 9223372036854775807) : Calls Try.prog 5 #[.int .i64 a, .int .i64 b] w (VPost (.bool true) w) := by
  have HSH := Lib.hid (shown_any w)
  have HNUM := Lib.hid (fun n W => numb n W)
  obtain ⟨⟨⟨qk, qn⟩, qe, qo⟩, hR2⟩ : ∃ R, binR ⟨#[47]⟩ 1 a 1 b = R := ⟨_, rfl⟩
  have HB2' := Lib.hid (fun W => binary_any ⟨#[47]⟩ 1 a 1 b W)
  rw [hR2] at HB2'
  obtain ⟨⟨⟨rk, rn⟩, re, ro⟩, hR3⟩ : ∃ R, binR ⟨#[37]⟩ 1 a 1 b = R := ⟨_, rfl⟩
  have HB3' := Lib.hid (fun W => binary_any ⟨#[37]⟩ 1 a 1 b W)
  rw [hR3] at HB3'
  obtain ⟨⟨⟨pk, pn⟩, pe, po⟩, hR4⟩ : ∃ R, binR ⟨#[42]⟩ qk qn 1 b = R := ⟨_, rfl⟩
  have HB4' := Lib.hid (fun W => binary_any ⟨#[42]⟩ qk qn 1 b W)
  rw [hR4] at HB4'
  obtain ⟨⟨⟨sk, sn⟩, se, so⟩, hR5⟩ : ∃ R, binR ⟨#[43]⟩ pk pn rk rn = R := ⟨_, rfl⟩
  have HB5' := Lib.hid (fun W => binary_any ⟨#[43]⟩ pk pn rk rn W)
  rw [hR5] at HB5'
  have HD := Lib.hid (laws_div ha hR2 hR3 hR4 hR5)
  have HU6 := Lib.hid (fun W => unary_any ⟨#[45]⟩ 1 a W)
  rw [show unR ⟨#[45]⟩ 1 a = ((1, wrap64 (-a)), true) from rfl] at HU6
  have HU7 := Lib.hid (fun W => unary_any ⟨#[45]⟩ 1 (wrap64 (-a)) W)
  rw [show unR ⟨#[45]⟩ 1 (wrap64 (-a)) = ((1, wrap64 (-(wrap64 (-a)))), true) from rfl, laws_neg a ha] at HU7
  have HB8' := Lib.hid (fun W => binary_any ⟨#[60]⟩ 1 a 1 b W)
  rw [show binR ⟨#[60]⟩ 1 a 1 b = ((2, tB (decide (a < b))), 0, true) from rfl] at HB8'
  have HB9' := Lib.hid (fun W => binary_any ⟨#[61, 61]⟩ 1 a 1 b W)
  rw [show binR ⟨#[61, 61]⟩ 1 a 1 b = ((2, tB (a == b)), 0, true) from rfl] at HB9'
  have HB10' := Lib.hid (fun W => binary_any ⟨#[62]⟩ 1 a 1 b W)
  rw [show binR ⟨#[62]⟩ 1 a 1 b = ((2, tB (decide (b < a))), 0, true) from rfl] at HB10'
  have HU11 := Lib.hid (fun W => unary_any ⟨#[33]⟩ 2 (tB (a == b)) W)
  rw [show unR ⟨#[33]⟩ 2 (tB (a == b)) = ((2, tB (tB (a == b) == 0)), true) from rfl] at HU11
  have HB12' := Lib.hid (fun W => binary_any ⟨#[33, 61]⟩ 1 a 1 b W)
  rw [show binR ⟨#[33, 61]⟩ 1 a 1 b = ((2, tB (a != b)), 0, true) from rfl] at HB12'
  have HB13' := Lib.hid (fun W => binary_any ⟨#[124, 124]⟩ 2 (tB (decide (a < b))) 2 (tB (decide (b < a))) W)
  rw [show binR ⟨#[124, 124]⟩ 2 (tB (decide (a < b))) 2 (tB (decide (b < a))) = ((2, tB ((tB (decide (a < b)) != 0) || (tB (decide (b < a)) != 0))), 0, true) from rfl] at HB13'
  obtain ⟨hc1, hc2, hc3⟩ := laws_cmp a b
  rw [hc2] at HU11
  rw [hc3] at HB13'
  have t1 := tB_01 (decide (a < b))
  have t2 := tB_01 (a == b)
  have t3 := tB_01 (decide (b < a))
  generalize tB (decide (a < b)) = n1 at *
  generalize tB (a == b) = n2 at *
  generalize tB (decide (b < a)) = n3 at *
  generalize tB (a != b) = n4 at *
  generalize wrap64 (-a) = am at *
  have HC := Lib.hid (And.intro hc1 (And.intro t1 (And.intro t2 t3)))
  clear hc1 hc2 hc3 t1 t2 t3 hR2 hR3 hR4 hR5 ha
  go_enter Try.func5, Try.ntmps5
  go_wp2_with (go_at_call 8; refine HSH.out.mono ?_)
  rintro e w1 ⟨rfl, hb1⟩
  have HB1 := Lib.hid hb1
  clear hb1
  go_wp2_with (first | (go_at_call 23; refine (num_any _ _).mono ?_; rintro e w' ⟨rfl, rfl⟩) | (go_at_call 12; refine (HB2'.out _).mono ?_))
  rintro e w2 ⟨rfl, hbx⟩
  have hb2 := bt ((heap1 w1 _).alloc (by simp) _) hbx
  clear hbx
  have hbn2 := bt HB1.out hb2
  have zn := Bx.new w2 23 [.int .i64 qk, .int .i64 qn]
  have hbm := hbn2.alloc hbn2.size (.cells #[.int .i64 qk, .int .i64 qn] 23)
  clear hb2 hbn2
  go_upto_region 3 with (fail)
  obtain ⟨V2, hV⟩ : ∃ V, w2.alloc (.cells #[.int .i64 qk, .int .i64 qn] 23) = V := ⟨_, rfl⟩
  have HB2 := Lib.hid (show Below w.heap.size w V2 by rw [← hV]; exact hbm)
  have Y0 := Lib.hid (show Bx V2 w2.heap.size 23 [.int .i64 qk, .int .i64 qn] by rw [← hV]; exact zn)
  rw [hV]
  clear hbm zn hV 
  go_wp2_with (first | (go_at_call 23; refine (num_any _ _).mono ?_; rintro e w' ⟨rfl, rfl⟩) | (go_at_call 12; refine (HB3'.out _).mono ?_))
  rintro e w3 ⟨rfl, hbx⟩
  have hb3 := bt ((heap1 V2 _).alloc (by simp) _) hbx
  clear hbx
  have hbn3 := bt HB2.out hb3
  have z0 := ((Y0.out.below hb3 Y0.out.lt).alloc (.cells #[.int .i64 rk, .int .i64 rn] 23))
  have zn := Bx.new w3 23 [.int .i64 rk, .int .i64 rn]
  have hbm := hbn3.alloc hbn3.size (.cells #[.int .i64 rk, .int .i64 rn] 23)
  clear hb3 hbn3
  go_upto_region 4 with (fail)
  obtain ⟨V3, hV⟩ : ∃ V, w3.alloc (.cells #[.int .i64 rk, .int .i64 rn] 23) = V := ⟨_, rfl⟩
  have HB3 := Lib.hid (show Below w.heap.size w V3 by rw [← hV]; exact hbm)
  replace Y0 := Lib.hid (show Bx V3 w2.heap.size 23 [.int .i64 qk, .int .i64 qn] by rw [← hV]; exact z0)
  have Y1 := Lib.hid (show Bx V3 w3.heap.size 23 [.int .i64 rk, .int .i64 rn] by rw [← hV]; exact zn)
  rw [hV]
  clear hbm zn hV z0
  go_cut [12, 13, 14] (fun p x y wx => ∃ gg : Nat, p = .pointer (some ⟨gg, 0, none⟩) ∧ x = .int .i64 pe ∧ y = .bool po ∧ Below V3.heap.size V3 wx ∧ gg < wx.heap.size ∧ wx.cell? ⟨gg, 0, none⟩ = some (.int .i64 pk) ∧ wx.cell? ⟨gg, 1, none⟩ = some (.int .i64 pn))
  case first =>
    have l0 : ∀ w', Below V3.heap.size V3 w' → w'.cell? ⟨w2.heap.size, 0, none⟩ = some (.int .i64 qk) := fun w' q => ((Y0.out.below q Y0.out.lt).cell 0).trans rfl
    have l1 : ∀ w', Below V3.heap.size V3 w' → w'.cell? ⟨w2.heap.size, 1, none⟩ = some (.int .i64 qn) := fun w' q => ((Y0.out.below q Y0.out.lt).cell 1).trans rfl
    go_region_held3 (fun w' => Below V3.heap.size V3 w') (first | exact (Below.refl _ _).drew | exact bt (by assumption) (by assumption) | exact realloc (by assumption) (by assumption) | exact below2 (by assumption) (by assumption) | exact below2 (by assumption) (Nat.le_refl _) | exact Below.alloc (by assumption) (Below.size (by assumption)) _ | go_keep)
      (first | (go_at_call 23; refine (HNUM.out _ _).mono ?_; rintro e w1 ⟨rfl, hb1⟩; obtain ⟨hcc, hff, hnn⟩ := bcell3 hb1; have hzz : V3.heap.size ≤ w1.heap.size := (bt (by assumption) hb1).size; try (have hyy : V3.heap.size < w1.heap.size := (by have hq := hb1.size; (try rw [World.size_alloc] at hq); first | exact Nat.lt_of_lt_of_le (by assumption) hq | (simp at hq; omega)))) | (go_at_call 12; refine (HB4'.out _).mono ?_; rintro e w1 ⟨rfl, hb1⟩; obtain ⟨hcc, hff, hnn⟩ := bcell3 hb1; have hzz : V3.heap.size ≤ w1.heap.size := (bt (by assumption) hb1).size; try (have hyy : V3.heap.size < w1.heap.size := (by have hq := hb1.size; (try rw [World.size_alloc] at hq); first | exact Nat.lt_of_lt_of_le (by assumption) hq | (simp at hq; omega)))))
    all_goals (go_wp2_with fail; go_meet; refine ⟨_, rfl, rfl, rfl, by assumption, ?_, ?_, ?_⟩)
    all_goals simp (maxDischargeDepth := 8) [go_sem, *]
  case rest =>
  obtain ⟨gp, rfl, rfl, rfl, hb, hgp, p0, p1⟩ := hcut
  obtain ⟨V4, rfl⟩ : ∃ V, V = wc := ⟨_, rfl⟩
  replace Y0 := Lib.hid (Y0.out.below hb Y0.out.lt)
  replace Y1 := Lib.hid (Y1.out.below hb Y1.out.lt)
  have HB4 := Lib.hid (bt HB3.out hb)
  clear hb
  have a0 := (Y1.out.cell 0).trans rfl
  have a1 := (Y1.out.cell 1).trans rfl
  go_wp2_with (first | (go_at_call 12; refine (HB5'.out _).mono ?_))
  rintro e w5 ⟨rfl, hbx⟩
  have hb5 := hbx
  clear hbx a0 a1 p0 p1 hgp
  have hbn5 := bt HB4.out hb5
  have z0 := ((Y0.out.below hb5 Y0.out.lt).alloc (.cells #[.int .i64 sk, .int .i64 sn] 23))
  have z1 := ((Y1.out.below hb5 Y1.out.lt).alloc (.cells #[.int .i64 sk, .int .i64 sn] 23))
  have zn := Bx.new w5 23 [.int .i64 sk, .int .i64 sn]
  have hbm := hbn5.alloc hbn5.size (.cells #[.int .i64 sk, .int .i64 sn] 23)
  clear hb5 hbn5
  go_upto_region 6 with (fail)
  obtain ⟨V5, hV⟩ : ∃ V, w5.alloc (.cells #[.int .i64 sk, .int .i64 sn] 23) = V := ⟨_, rfl⟩
  have HB5 := Lib.hid (show Below w.heap.size w V5 by rw [← hV]; exact hbm)
  replace Y0 := Lib.hid (show Bx V5 w2.heap.size 23 [.int .i64 qk, .int .i64 qn] by rw [← hV]; exact z0)
  replace Y1 := Lib.hid (show Bx V5 w3.heap.size 23 [.int .i64 rk, .int .i64 rn] by rw [← hV]; exact z1)
  have Y2 := Lib.hid (show Bx V5 w5.heap.size 23 [.int .i64 sk, .int .i64 sn] by rw [← hV]; exact zn)
  rw [hV]
  clear hbm zn hV z0 z1
  go_wp2_with (first | (go_at_call 23; refine (num_any _ _).mono ?_; rintro e w' ⟨rfl, rfl⟩) | (go_at_call 9; refine (HU6.out _).mono ?_))
  rintro e w6 ⟨rfl, hbx⟩
  have hb6 := bt (heap1 V5 _) hbx
  clear hbx
  have hbn6 := bt HB5.out hb6
  have z0 := ((Y0.out.below hb6 Y0.out.lt).alloc (.cells #[.int .i64 1, .int .i64 am] 23))
  have z1 := ((Y1.out.below hb6 Y1.out.lt).alloc (.cells #[.int .i64 1, .int .i64 am] 23))
  have z2 := ((Y2.out.below hb6 Y2.out.lt).alloc (.cells #[.int .i64 1, .int .i64 am] 23))
  have zn := Bx.new w6 23 [.int .i64 1, .int .i64 am]
  have hbm := hbn6.alloc hbn6.size (.cells #[.int .i64 1, .int .i64 am] 23)
  clear hb6 hbn6
  go_upto_region 7 with (fail)
  obtain ⟨V6, hV⟩ : ∃ V, w6.alloc (.cells #[.int .i64 1, .int .i64 am] 23) = V := ⟨_, rfl⟩
  have HB6 := Lib.hid (show Below w.heap.size w V6 by rw [← hV]; exact hbm)
  replace Y0 := Lib.hid (show Bx V6 w2.heap.size 23 [.int .i64 qk, .int .i64 qn] by rw [← hV]; exact z0)
  replace Y1 := Lib.hid (show Bx V6 w3.heap.size 23 [.int .i64 rk, .int .i64 rn] by rw [← hV]; exact z1)
  replace Y2 := Lib.hid (show Bx V6 w5.heap.size 23 [.int .i64 sk, .int .i64 sn] by rw [← hV]; exact z2)
  have Y3 := Lib.hid (show Bx V6 w6.heap.size 23 [.int .i64 1, .int .i64 am] by rw [← hV]; exact zn)
  rw [hV]
  clear hbm zn hV z0 z1 z2
  have a0 := (Y3.out.cell 0).trans rfl
  have a1 := (Y3.out.cell 1).trans rfl
  go_wp2_with (first | (go_at_call 9; refine (HU7.out _).mono ?_))
  rintro e w7 ⟨rfl, hbx⟩
  have hb7 := hbx
  clear hbx a0 a1
  have hbn7 := bt HB6.out hb7
  have z0 := ((Y0.out.below hb7 Y0.out.lt).alloc (.cells #[.int .i64 1, .int .i64 a] 23))
  have z1 := ((Y1.out.below hb7 Y1.out.lt).alloc (.cells #[.int .i64 1, .int .i64 a] 23))
  have z2 := ((Y2.out.below hb7 Y2.out.lt).alloc (.cells #[.int .i64 1, .int .i64 a] 23))
  have z3 := ((Y3.out.below hb7 Y3.out.lt).alloc (.cells #[.int .i64 1, .int .i64 a] 23))
  have zn := Bx.new w7 23 [.int .i64 1, .int .i64 a]
  have hbm := hbn7.alloc hbn7.size (.cells #[.int .i64 1, .int .i64 a] 23)
  clear hb7 hbn7
  go_upto_region 8 with (fail)
  obtain ⟨V7, hV⟩ : ∃ V, w7.alloc (.cells #[.int .i64 1, .int .i64 a] 23) = V := ⟨_, rfl⟩
  have HB7 := Lib.hid (show Below w.heap.size w V7 by rw [← hV]; exact hbm)
  replace Y0 := Lib.hid (show Bx V7 w2.heap.size 23 [.int .i64 qk, .int .i64 qn] by rw [← hV]; exact z0)
  replace Y1 := Lib.hid (show Bx V7 w3.heap.size 23 [.int .i64 rk, .int .i64 rn] by rw [← hV]; exact z1)
  replace Y2 := Lib.hid (show Bx V7 w5.heap.size 23 [.int .i64 sk, .int .i64 sn] by rw [← hV]; exact z2)
  replace Y3 := Lib.hid (show Bx V7 w6.heap.size 23 [.int .i64 1, .int .i64 am] by rw [← hV]; exact z3)
  have Y4 := Lib.hid (show Bx V7 w7.heap.size 23 [.int .i64 1, .int .i64 a] by rw [← hV]; exact zn)
  rw [hV]
  clear hbm zn hV z0 z1 z2 z3
  go_wp2_with (first | (go_at_call 23; refine (num_any _ _).mono ?_; rintro e w' ⟨rfl, rfl⟩) | (go_at_call 12; refine (HB8'.out _).mono ?_))
  rintro e w8 ⟨rfl, hbx⟩
  have hb8 := bt ((heap1 V7 _).alloc (by simp) _) hbx
  clear hbx
  have hbn8 := bt HB7.out hb8
  have z0 := ((Y0.out.below hb8 Y0.out.lt).alloc (.cells #[.int .i64 2, .int .i64 n1] 23))
  have z1 := ((Y1.out.below hb8 Y1.out.lt).alloc (.cells #[.int .i64 2, .int .i64 n1] 23))
  have z2 := ((Y2.out.below hb8 Y2.out.lt).alloc (.cells #[.int .i64 2, .int .i64 n1] 23))
  have z3 := ((Y3.out.below hb8 Y3.out.lt).alloc (.cells #[.int .i64 2, .int .i64 n1] 23))
  have z4 := ((Y4.out.below hb8 Y4.out.lt).alloc (.cells #[.int .i64 2, .int .i64 n1] 23))
  have zn := Bx.new w8 23 [.int .i64 2, .int .i64 n1]
  have hbm := hbn8.alloc hbn8.size (.cells #[.int .i64 2, .int .i64 n1] 23)
  clear hb8 hbn8
  go_upto_region 9 with (fail)
  obtain ⟨V8, hV⟩ : ∃ V, w8.alloc (.cells #[.int .i64 2, .int .i64 n1] 23) = V := ⟨_, rfl⟩
  have HB8 := Lib.hid (show Below w.heap.size w V8 by rw [← hV]; exact hbm)
  replace Y0 := Lib.hid (show Bx V8 w2.heap.size 23 [.int .i64 qk, .int .i64 qn] by rw [← hV]; exact z0)
  replace Y1 := Lib.hid (show Bx V8 w3.heap.size 23 [.int .i64 rk, .int .i64 rn] by rw [← hV]; exact z1)
  replace Y2 := Lib.hid (show Bx V8 w5.heap.size 23 [.int .i64 sk, .int .i64 sn] by rw [← hV]; exact z2)
  replace Y3 := Lib.hid (show Bx V8 w6.heap.size 23 [.int .i64 1, .int .i64 am] by rw [← hV]; exact z3)
  replace Y4 := Lib.hid (show Bx V8 w7.heap.size 23 [.int .i64 1, .int .i64 a] by rw [← hV]; exact z4)
  have Y5 := Lib.hid (show Bx V8 w8.heap.size 23 [.int .i64 2, .int .i64 n1] by rw [← hV]; exact zn)
  rw [hV]
  clear hbm zn hV z0 z1 z2 z3 z4
  go_wp2_with (first | (go_at_call 23; refine (num_any _ _).mono ?_; rintro e w' ⟨rfl, rfl⟩) | (go_at_call 12; refine (HB9'.out _).mono ?_))
  rintro e w9 ⟨rfl, hbx⟩
  have hb9 := bt ((heap1 V8 _).alloc (by simp) _) hbx
  clear hbx
  have hbn9 := bt HB8.out hb9
  have z0 := ((Y0.out.below hb9 Y0.out.lt).alloc (.cells #[.int .i64 2, .int .i64 n2] 23))
  have z1 := ((Y1.out.below hb9 Y1.out.lt).alloc (.cells #[.int .i64 2, .int .i64 n2] 23))
  have z2 := ((Y2.out.below hb9 Y2.out.lt).alloc (.cells #[.int .i64 2, .int .i64 n2] 23))
  have z3 := ((Y3.out.below hb9 Y3.out.lt).alloc (.cells #[.int .i64 2, .int .i64 n2] 23))
  have z4 := ((Y4.out.below hb9 Y4.out.lt).alloc (.cells #[.int .i64 2, .int .i64 n2] 23))
  have z5 := ((Y5.out.below hb9 Y5.out.lt).alloc (.cells #[.int .i64 2, .int .i64 n2] 23))
  have zn := Bx.new w9 23 [.int .i64 2, .int .i64 n2]
  have hbm := hbn9.alloc hbn9.size (.cells #[.int .i64 2, .int .i64 n2] 23)
  clear hb9 hbn9
  go_upto_region 10 with (fail)
  obtain ⟨V9, hV⟩ : ∃ V, w9.alloc (.cells #[.int .i64 2, .int .i64 n2] 23) = V := ⟨_, rfl⟩
  have HB9 := Lib.hid (show Below w.heap.size w V9 by rw [← hV]; exact hbm)
  replace Y0 := Lib.hid (show Bx V9 w2.heap.size 23 [.int .i64 qk, .int .i64 qn] by rw [← hV]; exact z0)
  replace Y1 := Lib.hid (show Bx V9 w3.heap.size 23 [.int .i64 rk, .int .i64 rn] by rw [← hV]; exact z1)
  replace Y2 := Lib.hid (show Bx V9 w5.heap.size 23 [.int .i64 sk, .int .i64 sn] by rw [← hV]; exact z2)
  replace Y3 := Lib.hid (show Bx V9 w6.heap.size 23 [.int .i64 1, .int .i64 am] by rw [← hV]; exact z3)
  replace Y4 := Lib.hid (show Bx V9 w7.heap.size 23 [.int .i64 1, .int .i64 a] by rw [← hV]; exact z4)
  replace Y5 := Lib.hid (show Bx V9 w8.heap.size 23 [.int .i64 2, .int .i64 n1] by rw [← hV]; exact z5)
  have Y6 := Lib.hid (show Bx V9 w9.heap.size 23 [.int .i64 2, .int .i64 n2] by rw [← hV]; exact zn)
  rw [hV]
  clear hbm zn hV z0 z1 z2 z3 z4 z5
  go_wp2_with (first | (go_at_call 23; refine (num_any _ _).mono ?_; rintro e w' ⟨rfl, rfl⟩) | (go_at_call 12; refine (HB10'.out _).mono ?_))
  rintro e w10 ⟨rfl, hbx⟩
  have hb10 := bt ((heap1 V9 _).alloc (by simp) _) hbx
  clear hbx
  have hbn10 := bt HB9.out hb10
  have z0 := ((Y0.out.below hb10 Y0.out.lt).alloc (.cells #[.int .i64 2, .int .i64 n3] 23))
  have z1 := ((Y1.out.below hb10 Y1.out.lt).alloc (.cells #[.int .i64 2, .int .i64 n3] 23))
  have z2 := ((Y2.out.below hb10 Y2.out.lt).alloc (.cells #[.int .i64 2, .int .i64 n3] 23))
  have z3 := ((Y3.out.below hb10 Y3.out.lt).alloc (.cells #[.int .i64 2, .int .i64 n3] 23))
  have z4 := ((Y4.out.below hb10 Y4.out.lt).alloc (.cells #[.int .i64 2, .int .i64 n3] 23))
  have z5 := ((Y5.out.below hb10 Y5.out.lt).alloc (.cells #[.int .i64 2, .int .i64 n3] 23))
  have z6 := ((Y6.out.below hb10 Y6.out.lt).alloc (.cells #[.int .i64 2, .int .i64 n3] 23))
  have zn := Bx.new w10 23 [.int .i64 2, .int .i64 n3]
  have hbm := hbn10.alloc hbn10.size (.cells #[.int .i64 2, .int .i64 n3] 23)
  clear hb10 hbn10
  go_upto_region 11 with (fail)
  obtain ⟨V10, hV⟩ : ∃ V, w10.alloc (.cells #[.int .i64 2, .int .i64 n3] 23) = V := ⟨_, rfl⟩
  have HB10 := Lib.hid (show Below w.heap.size w V10 by rw [← hV]; exact hbm)
  replace Y0 := Lib.hid (show Bx V10 w2.heap.size 23 [.int .i64 qk, .int .i64 qn] by rw [← hV]; exact z0)
  replace Y1 := Lib.hid (show Bx V10 w3.heap.size 23 [.int .i64 rk, .int .i64 rn] by rw [← hV]; exact z1)
  replace Y2 := Lib.hid (show Bx V10 w5.heap.size 23 [.int .i64 sk, .int .i64 sn] by rw [← hV]; exact z2)
  replace Y3 := Lib.hid (show Bx V10 w6.heap.size 23 [.int .i64 1, .int .i64 am] by rw [← hV]; exact z3)
  replace Y4 := Lib.hid (show Bx V10 w7.heap.size 23 [.int .i64 1, .int .i64 a] by rw [← hV]; exact z4)
  replace Y5 := Lib.hid (show Bx V10 w8.heap.size 23 [.int .i64 2, .int .i64 n1] by rw [← hV]; exact z5)
  replace Y6 := Lib.hid (show Bx V10 w9.heap.size 23 [.int .i64 2, .int .i64 n2] by rw [← hV]; exact z6)
  have Y7 := Lib.hid (show Bx V10 w10.heap.size 23 [.int .i64 2, .int .i64 n3] by rw [← hV]; exact zn)
  rw [hV]
  clear hbm zn hV z0 z1 z2 z3 z4 z5 z6
  have a0 := (Y6.out.cell 0).trans rfl
  have a1 := (Y6.out.cell 1).trans rfl
  go_wp2_with (first | (go_at_call 9; refine (HU11.out _).mono ?_))
  rintro e w11 ⟨rfl, hbx⟩
  have hb11 := hbx
  clear hbx a0 a1
  have hbn11 := bt HB10.out hb11
  have z0 := ((Y0.out.below hb11 Y0.out.lt).alloc (.cells #[.int .i64 2, .int .i64 n4] 23))
  have z1 := ((Y1.out.below hb11 Y1.out.lt).alloc (.cells #[.int .i64 2, .int .i64 n4] 23))
  have z2 := ((Y2.out.below hb11 Y2.out.lt).alloc (.cells #[.int .i64 2, .int .i64 n4] 23))
  have z3 := ((Y3.out.below hb11 Y3.out.lt).alloc (.cells #[.int .i64 2, .int .i64 n4] 23))
  have z4 := ((Y4.out.below hb11 Y4.out.lt).alloc (.cells #[.int .i64 2, .int .i64 n4] 23))
  have z5 := ((Y5.out.below hb11 Y5.out.lt).alloc (.cells #[.int .i64 2, .int .i64 n4] 23))
  have z6 := ((Y6.out.below hb11 Y6.out.lt).alloc (.cells #[.int .i64 2, .int .i64 n4] 23))
  have z7 := ((Y7.out.below hb11 Y7.out.lt).alloc (.cells #[.int .i64 2, .int .i64 n4] 23))
  have zn := Bx.new w11 23 [.int .i64 2, .int .i64 n4]
  have hbm := hbn11.alloc hbn11.size (.cells #[.int .i64 2, .int .i64 n4] 23)
  clear hb11 hbn11
  go_upto_region 12 with (fail)
  obtain ⟨V11, hV⟩ : ∃ V, w11.alloc (.cells #[.int .i64 2, .int .i64 n4] 23) = V := ⟨_, rfl⟩
  have HB11 := Lib.hid (show Below w.heap.size w V11 by rw [← hV]; exact hbm)
  replace Y0 := Lib.hid (show Bx V11 w2.heap.size 23 [.int .i64 qk, .int .i64 qn] by rw [← hV]; exact z0)
  replace Y1 := Lib.hid (show Bx V11 w3.heap.size 23 [.int .i64 rk, .int .i64 rn] by rw [← hV]; exact z1)
  replace Y2 := Lib.hid (show Bx V11 w5.heap.size 23 [.int .i64 sk, .int .i64 sn] by rw [← hV]; exact z2)
  replace Y3 := Lib.hid (show Bx V11 w6.heap.size 23 [.int .i64 1, .int .i64 am] by rw [← hV]; exact z3)
  replace Y4 := Lib.hid (show Bx V11 w7.heap.size 23 [.int .i64 1, .int .i64 a] by rw [← hV]; exact z4)
  replace Y5 := Lib.hid (show Bx V11 w8.heap.size 23 [.int .i64 2, .int .i64 n1] by rw [← hV]; exact z5)
  replace Y6 := Lib.hid (show Bx V11 w9.heap.size 23 [.int .i64 2, .int .i64 n2] by rw [← hV]; exact z6)
  replace Y7 := Lib.hid (show Bx V11 w10.heap.size 23 [.int .i64 2, .int .i64 n3] by rw [← hV]; exact z7)
  have Y8 := Lib.hid (show Bx V11 w11.heap.size 23 [.int .i64 2, .int .i64 n4] by rw [← hV]; exact zn)
  rw [hV]
  clear hbm zn hV z0 z1 z2 z3 z4 z5 z6 z7
  go_wp2_with (first | (go_at_call 23; refine (num_any _ _).mono ?_; rintro e w' ⟨rfl, rfl⟩) | (go_at_call 12; refine (HB12'.out _).mono ?_))
  rintro e w12 ⟨rfl, hbx⟩
  have hb12 := bt ((heap1 V11 _).alloc (by simp) _) hbx
  clear hbx
  have hbn12 := bt HB11.out hb12
  have z0 := ((Y0.out.below hb12 Y0.out.lt).alloc (.cells #[.int .i64 2, .int .i64 n4] 23))
  have z1 := ((Y1.out.below hb12 Y1.out.lt).alloc (.cells #[.int .i64 2, .int .i64 n4] 23))
  have z2 := ((Y2.out.below hb12 Y2.out.lt).alloc (.cells #[.int .i64 2, .int .i64 n4] 23))
  have z3 := ((Y3.out.below hb12 Y3.out.lt).alloc (.cells #[.int .i64 2, .int .i64 n4] 23))
  have z4 := ((Y4.out.below hb12 Y4.out.lt).alloc (.cells #[.int .i64 2, .int .i64 n4] 23))
  have z5 := ((Y5.out.below hb12 Y5.out.lt).alloc (.cells #[.int .i64 2, .int .i64 n4] 23))
  have z6 := ((Y6.out.below hb12 Y6.out.lt).alloc (.cells #[.int .i64 2, .int .i64 n4] 23))
  have z7 := ((Y7.out.below hb12 Y7.out.lt).alloc (.cells #[.int .i64 2, .int .i64 n4] 23))
  have z8 := ((Y8.out.below hb12 Y8.out.lt).alloc (.cells #[.int .i64 2, .int .i64 n4] 23))
  have zn := Bx.new w12 23 [.int .i64 2, .int .i64 n4]
  have hbm := hbn12.alloc hbn12.size (.cells #[.int .i64 2, .int .i64 n4] 23)
  clear hb12 hbn12
  go_upto_region 13 with (fail)
  obtain ⟨V12, hV⟩ : ∃ V, w12.alloc (.cells #[.int .i64 2, .int .i64 n4] 23) = V := ⟨_, rfl⟩
  have HB12 := Lib.hid (show Below w.heap.size w V12 by rw [← hV]; exact hbm)
  replace Y0 := Lib.hid (show Bx V12 w2.heap.size 23 [.int .i64 qk, .int .i64 qn] by rw [← hV]; exact z0)
  replace Y1 := Lib.hid (show Bx V12 w3.heap.size 23 [.int .i64 rk, .int .i64 rn] by rw [← hV]; exact z1)
  replace Y2 := Lib.hid (show Bx V12 w5.heap.size 23 [.int .i64 sk, .int .i64 sn] by rw [← hV]; exact z2)
  replace Y3 := Lib.hid (show Bx V12 w6.heap.size 23 [.int .i64 1, .int .i64 am] by rw [← hV]; exact z3)
  replace Y4 := Lib.hid (show Bx V12 w7.heap.size 23 [.int .i64 1, .int .i64 a] by rw [← hV]; exact z4)
  replace Y5 := Lib.hid (show Bx V12 w8.heap.size 23 [.int .i64 2, .int .i64 n1] by rw [← hV]; exact z5)
  replace Y6 := Lib.hid (show Bx V12 w9.heap.size 23 [.int .i64 2, .int .i64 n2] by rw [← hV]; exact z6)
  replace Y7 := Lib.hid (show Bx V12 w10.heap.size 23 [.int .i64 2, .int .i64 n3] by rw [← hV]; exact z7)
  replace Y8 := Lib.hid (show Bx V12 w11.heap.size 23 [.int .i64 2, .int .i64 n4] by rw [← hV]; exact z8)
  have Y9 := Lib.hid (show Bx V12 w12.heap.size 23 [.int .i64 2, .int .i64 n4] by rw [← hV]; exact zn)
  rw [hV]
  clear hbm zn hV z0 z1 z2 z3 z4 z5 z6 z7 z8
  have a0 := (Y5.out.cell 0).trans rfl
  have a1 := (Y5.out.cell 1).trans rfl
  have b0 := (Y7.out.cell 0).trans rfl
  have b1 := (Y7.out.cell 1).trans rfl
  go_wp2_with (first | (go_at_call 12; refine (HB13'.out _).mono ?_))
  rintro e w13 ⟨rfl, hbx⟩
  have hb13 := hbx
  clear hbx a0 a1 b0 b1
  have hbn13 := bt HB12.out hb13
  have z0 := ((Y0.out.below hb13 Y0.out.lt).alloc (.cells #[.int .i64 2, .int .i64 n4] 23))
  have z1 := ((Y1.out.below hb13 Y1.out.lt).alloc (.cells #[.int .i64 2, .int .i64 n4] 23))
  have z2 := ((Y2.out.below hb13 Y2.out.lt).alloc (.cells #[.int .i64 2, .int .i64 n4] 23))
  have z3 := ((Y3.out.below hb13 Y3.out.lt).alloc (.cells #[.int .i64 2, .int .i64 n4] 23))
  have z4 := ((Y4.out.below hb13 Y4.out.lt).alloc (.cells #[.int .i64 2, .int .i64 n4] 23))
  have z5 := ((Y5.out.below hb13 Y5.out.lt).alloc (.cells #[.int .i64 2, .int .i64 n4] 23))
  have z6 := ((Y6.out.below hb13 Y6.out.lt).alloc (.cells #[.int .i64 2, .int .i64 n4] 23))
  have z7 := ((Y7.out.below hb13 Y7.out.lt).alloc (.cells #[.int .i64 2, .int .i64 n4] 23))
  have z8 := ((Y8.out.below hb13 Y8.out.lt).alloc (.cells #[.int .i64 2, .int .i64 n4] 23))
  have z9 := ((Y9.out.below hb13 Y9.out.lt).alloc (.cells #[.int .i64 2, .int .i64 n4] 23))
  have zn := Bx.new w13 23 [.int .i64 2, .int .i64 n4]
  have hbm := hbn13.alloc hbn13.size (.cells #[.int .i64 2, .int .i64 n4] 23)
  clear hb13 hbn13
  go_upto_region 14 with (fail)
  obtain ⟨V13, hV⟩ : ∃ V, w13.alloc (.cells #[.int .i64 2, .int .i64 n4] 23) = V := ⟨_, rfl⟩
  have HB13 := Lib.hid (show Below w.heap.size w V13 by rw [← hV]; exact hbm)
  replace Y0 := Lib.hid (show Bx V13 w2.heap.size 23 [.int .i64 qk, .int .i64 qn] by rw [← hV]; exact z0)
  replace Y1 := Lib.hid (show Bx V13 w3.heap.size 23 [.int .i64 rk, .int .i64 rn] by rw [← hV]; exact z1)
  replace Y2 := Lib.hid (show Bx V13 w5.heap.size 23 [.int .i64 sk, .int .i64 sn] by rw [← hV]; exact z2)
  replace Y3 := Lib.hid (show Bx V13 w6.heap.size 23 [.int .i64 1, .int .i64 am] by rw [← hV]; exact z3)
  replace Y4 := Lib.hid (show Bx V13 w7.heap.size 23 [.int .i64 1, .int .i64 a] by rw [← hV]; exact z4)
  replace Y5 := Lib.hid (show Bx V13 w8.heap.size 23 [.int .i64 2, .int .i64 n1] by rw [← hV]; exact z5)
  replace Y6 := Lib.hid (show Bx V13 w9.heap.size 23 [.int .i64 2, .int .i64 n2] by rw [← hV]; exact z6)
  replace Y7 := Lib.hid (show Bx V13 w10.heap.size 23 [.int .i64 2, .int .i64 n3] by rw [← hV]; exact z7)
  replace Y8 := Lib.hid (show Bx V13 w11.heap.size 23 [.int .i64 2, .int .i64 n4] by rw [← hV]; exact z8)
  replace Y9 := Lib.hid (show Bx V13 w12.heap.size 23 [.int .i64 2, .int .i64 n4] by rw [← hV]; exact z9)
  have Y10 := Lib.hid (show Bx V13 w13.heap.size 23 [.int .i64 2, .int .i64 n4] by rw [← hV]; exact zn)
  rw [hV]
  clear hbm zn hV z0 z1 z2 z3 z4 z5 z6 z7 z8 z9
  have s0 := cell_regrown ((Y2.out.cell 0).trans rfl)
  have s1 := cell_regrown ((Y2.out.cell 1).trans rfl)
  have s2 := cell_regrown ((Y4.out.cell 0).trans rfl)
  have s3 := cell_regrown ((Y4.out.cell 1).trans rfl)
  have q1 := run_neq23
  have cq : ∀ d os n, Calls Try.prog 23 #[.int .i64 n] (grow (redrawn V13 d) os) fun e w'' => e = .returned (.agg #[.int .i64 1, .int .i64 n]) ∧ ∃ p : Regrown, w'' = grow (redrawn V13 p.d) p.os := fun d os n => Calls.regrown_of (HNUM.out _ _)
  obtain ⟨hd1, hd2, hd3⟩ := HD.out
  subst hd1
  have k1 : (qe != qe) = false := by simp
  have k2 : (a == a) = true := by simp
  by_cases hz : b = 0
  · subst hz
    have k3 : (qe != 0) = true := by rw [hd2]; rfl
    have k4 : (0 : Int) = 0 := rfl
    clear k4 hd2 hd3
    refine wp_region_quiet_below (by kernel_rfl) (by kernel_rfl) ?_
    repeat (first | go_big_quiet_step (first | exact cq _ _ _))
    refine wpQuiet_nil ?_
    intro _ hw'
    obtain ⟨⟨dq, osq⟩, hw''⟩ := hw'
    subst hw''
    have hbq := below_regrown V13 dq osq
    generalize grow (redrawn V13 dq) osq = wz at *
    have HE := Lib.hid (bt HB13.out hbq)
    have c0 := ((Y5.out.below hbq Y5.out.lt).cell 0).trans rfl
    have c1 := ((Y5.out.below hbq Y5.out.lt).cell 1).trans rfl
    have c2 := ((Y6.out.below hbq Y6.out.lt).cell 1).trans rfl
    have c3 := ((Y7.out.below hbq Y7.out.lt).cell 1).trans rfl
    have c4 := ((Y8.out.below hbq Y8.out.lt).cell 0).trans rfl
    have c5 := ((Y8.out.below hbq Y8.out.lt).cell 1).trans rfl
    have c6 := ((Y9.out.below hbq Y9.out.lt).cell 0).trans rfl
    have c7 := ((Y9.out.below hbq Y9.out.lt).cell 1).trans rfl
    have c8 := ((Y10.out.below hbq Y10.out.lt).cell 0).trans rfl
    have c9 := ((Y10.out.below hbq Y10.out.lt).cell 1).trans rfl
    have q2 := run_eql23
    obtain ⟨t0, ⟨t1, t1'⟩, ⟨t2, t2'⟩, t3, t3'⟩ := HC.out
    have k6 : (n1 + n2 + n3 == 1) = true := by rw [t0]; rfl
    have k7 : (n4 == n4) = true := by simp
    clear hbq s0 s1 s2 s3 q1 cq t0
    go_wp2
    go_ret
    exact ⟨rfl, HE.out⟩
  · obtain ⟨e1, e2⟩ := hd3 hz
    subst e1 e2
    have k4 : (b == 0) = false := beq_eq_false_iff_ne.2 hz
    have k3 : (qe != 0) = false := by rw [hd2]; exact k4
    have k5 : (b != 0) = true := by simpa using hz
    clear hd2 hd3 hz
    refine wp_region_quiet_below (by kernel_rfl) (by kernel_rfl) ?_
    repeat (first | go_big_quiet_step (first | exact cq _ _ _))
    refine wpQuiet_nil ?_
    intro _ hw'
    obtain ⟨⟨dq, osq⟩, hw''⟩ := hw'
    subst hw''
    have hbq := below_regrown V13 dq osq
    generalize grow (redrawn V13 dq) osq = wz at *
    have HE := Lib.hid (bt HB13.out hbq)
    have c0 := ((Y5.out.below hbq Y5.out.lt).cell 0).trans rfl
    have c1 := ((Y5.out.below hbq Y5.out.lt).cell 1).trans rfl
    have c2 := ((Y6.out.below hbq Y6.out.lt).cell 1).trans rfl
    have c3 := ((Y7.out.below hbq Y7.out.lt).cell 1).trans rfl
    have c4 := ((Y8.out.below hbq Y8.out.lt).cell 0).trans rfl
    have c5 := ((Y8.out.below hbq Y8.out.lt).cell 1).trans rfl
    have c6 := ((Y9.out.below hbq Y9.out.lt).cell 0).trans rfl
    have c7 := ((Y9.out.below hbq Y9.out.lt).cell 1).trans rfl
    have c8 := ((Y10.out.below hbq Y10.out.lt).cell 0).trans rfl
    have c9 := ((Y10.out.below hbq Y10.out.lt).cell 1).trans rfl
    have q2 := run_eql23
    obtain ⟨t0, ⟨t1, t1'⟩, ⟨t2, t2'⟩, t3, t3'⟩ := HC.out
    have k6 : (n1 + n2 + n3 == 1) = true := by rw [t0]; rfl
    have k7 : (n4 == n4) = true := by simp
    clear hbq s0 s1 s2 s3 q1 cq t0
    go_wp2
    go_ret
    exact ⟨rfl, HE.out⟩
end Go.Proofs.Ytpeodpgihmcghaa
