/- PROVED here: the law ValueSigns, walked. No condition but those in each theorem's own head. -/
import Derived.Test.YtpeodpgihmcghaaP
namespace Go.Proofs.Ytpeodpgihmcghaa
open Go Go.RowKit Go.Sort

def VPost (v : Value) (w : World) (e : Ending) (w' : World) : Prop := e = .returned v ∧ Below w.heap.size w w'
set_option maxRecDepth 100000 in
set_option maxHeartbeats 4000000 in
theorem valueSigns_w (s : ByteArray) (ka na kb nb kind : Int) (w : World) : Calls Try.prog 3 #[.string s, .agg #[.int .i64 ka, .int .i64 na], .agg #[.int .i64 kb, .int .i64 nb], .int .i64 kind] w (VPost (.bool true) w) := by
  have hX0 := (Bx.new w 23 [.int .i64 ka, .int .i64 na]).alloc (.cells #[.int .i64 kb, .int .i64 nb] 23)
  have hX1 := Bx.new (w.alloc (.cells #[.int .i64 ka, .int .i64 na] 23)) 23 [.int .i64 kb, .int .i64 nb]
  simp only [World.size_alloc] at hX1
  have hb0 : Below w.heap.size w ((w.alloc (.cells #[.int .i64 ka, .int .i64 na] 23)).alloc (.cells #[.int .i64 kb, .int .i64 nb] 23)) := (heap1 _ _).alloc (by simp) _
  obtain ⟨W0, hW0⟩ : ∃ W0, (w.alloc (.cells #[.int .i64 ka, .int .i64 na] 23)).alloc (.cells #[.int .i64 kb, .int .i64 nb] 23) = W0 := ⟨_, rfl⟩
  have HX0 := Lib.hid (show Bx W0 w.heap.size 23 [.int .i64 ka, .int .i64 na] by rw [← hW0]; exact hX0)
  have HX1 := Lib.hid (show Bx W0 (w.heap.size + 1) 23 [.int .i64 kb, .int .i64 nb] by rw [← hW0]; exact hX1)
  rw [hW0] at hb0
  have HB0 := Lib.hid hb0
  clear hX0 hX1 hb0
  have HSH := Lib.hid (shown_any W0)
  have HA := Lib.hid (fun k n W => as_any k n W)
  have HU := Lib.hid (fun W => unary_any s ka na W)
  have HRU := Lib.hid (fun W => runary_any s ka na W)
  have HBI := Lib.hid (fun W => binary_any s ka na kb nb W)
  have HRB := Lib.hid (fun W => rbinary_any s ka na kb nb W)
  have HZ := Lib.hid (fun W => zerob kind W)
  generalize unR s ka na = U at *
  generalize binR s ka na kb nb = R at *
  obtain ⟨⟨uk, un⟩, uo⟩ := U
  obtain ⟨⟨bk, bn⟩, be, bo⟩ := R
  dsimp only at HU HRU HBI HRB
  have a0 := (HX0.out.cell 0).trans rfl
  have a1 := (HX0.out.cell 1).trans rfl
  by_cases hl : 100 < (s.size : Int)
  · go_enter Try.func3, Try.ntmps3
    go_wp2_with (go_at_call 8; refine HSH.out.mono ?_)
    rintro e w1 ⟨rfl, hb1⟩
    have HB1 := Lib.hid (bt HB0.out hb1)
    clear hb1 a0 a1
    go_wp2
    go_ret
    exact ⟨rfl, HB1.out⟩
  · go_enter Try.func3, Try.ntmps3
    go_wp2_with (go_at_call 8; refine HSH.out.mono ?_)
    rintro e w1 ⟨rfl, hb1⟩
    have HB1 := Lib.hid (bt HB0.out hb1)
    have Y0 := Lib.hid (HX0.out.below hb1 HX0.out.lt)
    have Y1 := Lib.hid (HX1.out.below hb1 HX1.out.lt)
    clear hb1 a0 a1
    have a0 := (Y0.out.cell 0).trans rfl
    have a1 := (Y0.out.cell 1).trans rfl
    go_wp2_with (go_at_call 9; refine (HU.out _).mono ?_)
    rintro e w2 ⟨rfl, hb2⟩
    have hbn2 := bt HB1.out hb2
    have z0 := ((Y0.out.below hb2 Y0.out.lt).alloc (.cells #[.int .i64 uk, .int .i64 un] 23))
    have z1 := ((Y1.out.below hb2 Y1.out.lt).alloc (.cells #[.int .i64 uk, .int .i64 un] 23))
    have zn := Bx.new w2 23 [.int .i64 uk, .int .i64 un]
    have hbm := hbn2.alloc hbn2.size (.cells #[.int .i64 uk, .int .i64 un] 23)
    clear hb2 hbn2 a0 a1
    go_upto_region 5 with (fail)
    obtain ⟨V2, hV⟩ : ∃ V, w2.alloc (.cells #[.int .i64 uk, .int .i64 un] 23) = V := ⟨_, rfl⟩
    have HB2 := Lib.hid (show Below w.heap.size w V2 by rw [← hV]; exact hbm)
    replace Y0 := Lib.hid (show Bx V2 w.heap.size 23 [.int .i64 ka, .int .i64 na] by rw [← hV]; exact z0)
    replace Y1 := Lib.hid (show Bx V2 (w.heap.size + 1) 23 [.int .i64 kb, .int .i64 nb] by rw [← hV]; exact z1)
    have Y2 := Lib.hid (show Bx V2 w2.heap.size 23 [.int .i64 uk, .int .i64 un] by rw [← hV]; exact zn)
    rw [hV]
    clear hbm zn hV z0 z1
    have a0 := (Y0.out.cell 0).trans rfl
    have a1 := (Y0.out.cell 1).trans rfl
    go_wp2_with (first | (go_at_call 11; refine (HA.out _ _ _).mono ?_))
    rintro e wq ⟨rfl, hbq⟩
    go_wp2_with (first | (go_at_call 10; refine (HRU.out _).mono ?_))
    rintro e w3 ⟨rfl, hb3'⟩
    have hb3 := bt hbq hb3'
    clear hbq hb3'
    have hbn3 := bt HB2.out hb3
    have z0 := ((Y0.out.below hb3 Y0.out.lt).alloc (.cells #[.int .i64 uk, .int .i64 un] 27))
    have z1 := ((Y1.out.below hb3 Y1.out.lt).alloc (.cells #[.int .i64 uk, .int .i64 un] 27))
    have z2 := ((Y2.out.below hb3 Y2.out.lt).alloc (.cells #[.int .i64 uk, .int .i64 un] 27))
    have zn := Bx.new w3 27 [.int .i64 uk, .int .i64 un]
    have hbm := hbn3.alloc hbn3.size (.cells #[.int .i64 uk, .int .i64 un] 27)
    clear hb3 hbn3 a0 a1
    go_upto_region 6 with (fail)
    obtain ⟨V3, hV⟩ : ∃ V, w3.alloc (.cells #[.int .i64 uk, .int .i64 un] 27) = V := ⟨_, rfl⟩
    have HB3 := Lib.hid (show Below w.heap.size w V3 by rw [← hV]; exact hbm)
    replace Y0 := Lib.hid (show Bx V3 w.heap.size 23 [.int .i64 ka, .int .i64 na] by rw [← hV]; exact z0)
    replace Y1 := Lib.hid (show Bx V3 (w.heap.size + 1) 23 [.int .i64 kb, .int .i64 nb] by rw [← hV]; exact z1)
    replace Y2 := Lib.hid (show Bx V3 w2.heap.size 23 [.int .i64 uk, .int .i64 un] by rw [← hV]; exact z2)
    have Y3 := Lib.hid (show Bx V3 w3.heap.size 27 [.int .i64 uk, .int .i64 un] by rw [← hV]; exact zn)
    rw [hV]
    clear hbm zn hV z0 z1 z2
    have a0 := (Y0.out.cell 0).trans rfl
    have a1 := (Y0.out.cell 1).trans rfl
    have b0 := (Y1.out.cell 0).trans rfl
    have b1 := (Y1.out.cell 1).trans rfl
    go_wp2_with (first | (go_at_call 12; refine (HBI.out _).mono ?_))
    rintro e w4 ⟨rfl, hb4⟩
    clear b0 b1
    have hbn4 := bt HB3.out hb4
    have z0 := ((Y0.out.below hb4 Y0.out.lt).alloc (.cells #[.int .i64 bk, .int .i64 bn] 23))
    have z1 := ((Y1.out.below hb4 Y1.out.lt).alloc (.cells #[.int .i64 bk, .int .i64 bn] 23))
    have z2 := ((Y2.out.below hb4 Y2.out.lt).alloc (.cells #[.int .i64 bk, .int .i64 bn] 23))
    have z3 := ((Y3.out.below hb4 Y3.out.lt).alloc (.cells #[.int .i64 bk, .int .i64 bn] 23))
    have zn := Bx.new w4 23 [.int .i64 bk, .int .i64 bn]
    have hbm := hbn4.alloc hbn4.size (.cells #[.int .i64 bk, .int .i64 bn] 23)
    clear hb4 hbn4 a0 a1
    go_upto_region 7 with (fail)
    obtain ⟨V4, hV⟩ : ∃ V, w4.alloc (.cells #[.int .i64 bk, .int .i64 bn] 23) = V := ⟨_, rfl⟩
    have HB4 := Lib.hid (show Below w.heap.size w V4 by rw [← hV]; exact hbm)
    replace Y0 := Lib.hid (show Bx V4 w.heap.size 23 [.int .i64 ka, .int .i64 na] by rw [← hV]; exact z0)
    replace Y1 := Lib.hid (show Bx V4 (w.heap.size + 1) 23 [.int .i64 kb, .int .i64 nb] by rw [← hV]; exact z1)
    replace Y2 := Lib.hid (show Bx V4 w2.heap.size 23 [.int .i64 uk, .int .i64 un] by rw [← hV]; exact z2)
    replace Y3 := Lib.hid (show Bx V4 w3.heap.size 27 [.int .i64 uk, .int .i64 un] by rw [← hV]; exact z3)
    have Y4 := Lib.hid (show Bx V4 w4.heap.size 23 [.int .i64 bk, .int .i64 bn] by rw [← hV]; exact zn)
    rw [hV]
    clear hbm zn hV z0 z1 z2 z3
    go_cut [17, 18, 19] (fun p x y wx => ∃ gg : Nat, p = .pointer (some ⟨gg, 0, none⟩) ∧ x = .int .i64 be ∧ y = .bool bo ∧ Below V4.heap.size V4 wx ∧ wx.cell? ⟨gg, 0, none⟩ = some (.int .i64 bk) ∧ wx.cell? ⟨gg, 1, none⟩ = some (.int .i64 bn))
    case first =>
      have l0 : ∀ w', Below V4.heap.size V4 w' → w'.cell? ⟨w.heap.size, 0, none⟩ = some (.int .i64 ka) := fun w' q => ((Y0.out.below q Y0.out.lt).cell 0).trans rfl
      have l1 : ∀ w', Below V4.heap.size V4 w' → w'.cell? ⟨w.heap.size, 1, none⟩ = some (.int .i64 na) := fun w' q => ((Y0.out.below q Y0.out.lt).cell 1).trans rfl
      have l2 : ∀ w', Below V4.heap.size V4 w' → w'.cell? ⟨w.heap.size + 1, 0, none⟩ = some (.int .i64 kb) := fun w' q => ((Y1.out.below q Y1.out.lt).cell 0).trans rfl
      have l3 : ∀ w', Below V4.heap.size V4 w' → w'.cell? ⟨w.heap.size + 1, 1, none⟩ = some (.int .i64 nb) := fun w' q => ((Y1.out.below q Y1.out.lt).cell 1).trans rfl
      go_region_held3 (fun w' => Below V4.heap.size V4 w') (first | exact (Below.refl _ _).drew | exact bt (by assumption) (by assumption) | exact realloc (by assumption) (by assumption) | exact below2 (by assumption) (by assumption) | exact below2 (by assumption) (Nat.le_refl _) | exact Below.alloc (by assumption) (Below.size (by assumption)) _ | go_keep)
        (first | (go_at_call 11; refine (HA.out _ _ _).mono ?_; rintro e w1 ⟨rfl, hb1⟩; obtain ⟨hcc, hff, hnn⟩ := bcell3 hb1; have hzz : V4.heap.size ≤ w1.heap.size := (bt (by assumption) hb1).size; try (have hyy : V4.heap.size < w1.heap.size := (by have hq := hb1.size; (try rw [World.size_alloc] at hq); first | exact Nat.lt_of_lt_of_le (by assumption) hq | (simp at hq; omega)))) | (go_at_call 13; refine (HRB.out _).mono ?_; rintro e w1 ⟨rfl, hb1⟩; obtain ⟨hcc, hff, hnn⟩ := bcell3 hb1; have hzz : V4.heap.size ≤ w1.heap.size := (bt (by assumption) hb1).size; try (have hyy : V4.heap.size < w1.heap.size := (by have hq := hb1.size; (try rw [World.size_alloc] at hq); first | exact Nat.lt_of_lt_of_le (by assumption) hq | (simp at hq; omega)))))
      all_goals (go_wp2_with fail; go_meet; refine ⟨_, rfl, rfl, rfl, by assumption, ?_, ?_⟩)
      all_goals simp (maxDischargeDepth := 8) [go_sem, *]
    case rest =>
      obtain ⟨gg, rfl, rfl, rfl, hb, c0, c1⟩ := hcut
      obtain ⟨V5, rfl⟩ : ∃ V, V = wc := ⟨_, rfl⟩
      have HB5 := Lib.hid (bt HB4.out hb)
      have s0 := cell_regrown c0
      have s1 := cell_regrown c1
      have s2 := cell_regrown (((Y2.out.below hb Y2.out.lt).cell 0).trans rfl)
      have s3 := cell_regrown (((Y2.out.below hb Y2.out.lt).cell 1).trans rfl)
      have s4 := cell_regrown (((Y3.out.below hb Y3.out.lt).cell 0).trans rfl)
      have s5 := cell_regrown (((Y3.out.below hb Y3.out.lt).cell 1).trans rfl)
      have s6 := cell_regrown (((Y4.out.below hb Y4.out.lt).cell 0).trans rfl)
      have s7 := cell_regrown (((Y4.out.below hb Y4.out.lt).cell 1).trans rfl)
      have q1 := run_eql27
      have q2 := run_eql23
      have k1 : (uk == uk && un == un) = true := by simp
      have k2 : (bk == bk && bn == bn) = true := by simp
      have k3 : (uo == uo) = true := by simp
      have k4 : (be == be) = true := by simp
      have k5 : (bo == bo) = true := by simp
      have k6 : (kind == kind) = true := by simp
      have cq : ∀ d os k n, Calls Try.prog 11 #[.agg #[.int .i64 k, .int .i64 n]] (grow (redrawn V5 d) os) fun e w'' => e = .returned (.agg #[.int .i64 k, .int .i64 n]) ∧ ∃ p : Regrown, w'' = grow (redrawn V5 p.d) p.os := fun d os k n => Calls.regrown_of (HA.out _ _ _)
      have cz : ∀ d os, Calls Try.prog 14 #[.int .i64 kind] (grow (redrawn V5 d) os) fun e w'' => e = .returned (.agg #[.int .i64 kind, .int .i64 0]) ∧ ∃ p : Regrown, w'' = grow (redrawn V5 p.d) p.os := fun d os => Calls.regrown_of (HZ.out _)
      clear c0 c1 hb
      go_upto_region 8 with (fail)
      refine wp_region_quiet_below (by kernel_rfl) (by kernel_rfl) ?_
      repeat (first | go_big_quiet_step (first | exact cq _ _ _ _ | exact cz _ _))
      refine wpQuiet_nil ?_
      intro _ hw'
      obtain ⟨⟨dq, osq⟩, hw''⟩ := hw'
      subst hw''
      have hbq := below_regrown V5 dq osq
      generalize grow (redrawn V5 dq) osq = wz at *
      have HE := Lib.hid (bt HB5.out hbq)
      clear hbq s0 s1 s2 s3 s4 s5 s6 s7 q1 q2 cq cz
      go_wp2
      go_ret
      exact ⟨rfl, HE.out⟩
end Go.Proofs.Ytpeodpgihmcghaa
