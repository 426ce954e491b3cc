/- PROVED here: lengths of arrays; what is wrong with a cell; where it lies. No condition but those in each theorem's own head. -/
import Derived.Test.YtpeodpgihmcghaaG
namespace Go.Proofs.Ytpeodpgihmcghaa
open Go Go.RowKit Go.Sort

theorem wrap_pred (i : Nat) (h : i < 4000000) : IntKind.i64.wrap ((i : Int) + 1 - 1) = (i : Int) := IntWalk.i64_in _ (by omega) |>.trans (by omega)
set_option maxRecDepth 100000 in
theorem len_any {w : World} {base g : Nat} {v : Value} {vs : List Value} {L : List (List Int)} (h : Hp 46 C46 w base g v vs L) (k n : Int) : Calls Try.prog 18 #[.pointer (some ⟨g, 0, none⟩), .agg #[.int .i64 k, .int .i64 n]] w (IP (lenH L k n) w) := by
  have hb0 := heap1 w (.cells #[.int .i64 k, .int .i64 n] 23)
  have hX := Bx.new w 23 [.int .i64 k, .int .i64 n]
  have HG := Lib.hid (h.below hb0)
  have HB0 := Lib.hid hb0
  have hfew := h.few
  obtain ⟨W0, hW0⟩ : ∃ W0, w.alloc (.cells #[.int .i64 k, .int .i64 n] 23) = W0 := ⟨_, rfl⟩
  rw [show (w.alloc (.cells [Value.int .i64 k, .int .i64 n].toArray 23)) = W0 from hW0] at hX
  rw [hW0] at HG HB0
  have HX := Lib.hid hX
  have x0 := (hX.cell 0).trans rfl
  have x1 := (hX.cell 1).trans rfl
  clear hX hb0 h
  have HH := Lib.hid (has_any HG.out k n)
  unfold lenH
  cases hb : hasB L k n
  · rw [hb] at HH
    show Calls _ _ _ _ (IP 0 w)
    clear hb
    go_enter Try.func18, Try.ntmps18
    go_wp2_with (go_at_call 39; refine HH.out.mono ?_; rintro e w1 ⟨rfl, hb1⟩)
    go_ret
    exact ⟨rfl, bt HB0.out hb1⟩
  · rw [hb] at HH
    obtain ⟨i, rfl, hi, hr⟩ := has_at hb
    rw [hr]
    clear hr
    show Calls _ _ _ _ (IP (L[i].length : Int) w)
    have HW := Lib.hid (wrap_pred i (by omega))
    have HI := Lib.hid hi
    clear hb
    go_enter Try.func18, Try.ntmps18
    go_wp2_with (go_at_call 39; refine HH.out.mono ?_; rintro e w1 ⟨rfl, hb1⟩)
    have hG1 := HG.out.below hb1
    obtain ⟨b, c, e1, hbl, A, d, hc, -⟩ := hG1.row HI.out
    have hg0 := (hG1.bx.cell 0).trans rfl
    rw [e1] at hg0
    have hX1 := HX.out.below hb1 HX.out.lt
    have s0 := cell_regrown hg0
    have s1 := cell_regrown ((hX1.cell 1).trans rfl)
    have s2 := cell_regrown hc
    have hiz : (i : Int) < (L.length : Int) := by have := HI.out; omega
    have HB1 := Lib.hid (bt HB0.out hb1)
    clear hg0 hX1 hc hb1 hG1 e1 x0 x1
    have hw := HW.out
    go_upto_region 3 with (fail)
    refine wp_region_quiet_below (by kernel_rfl) (by kernel_rfl) ?_
    repeat (first | go_big_quiet_step (first | fail))
    refine wpQuiet_nil ?_
    intro _ hw'
    obtain ⟨⟨dq, osq⟩, hw''⟩ := hw'
    subst hw''
    have hbq := below_regrown w1 dq osq
    generalize grow (redrawn w1 dq) osq = w9 at *
    have HE := Lib.hid (bt HB1.out hbq)
    clear hbq s0 s1 s2 hw
    go_wp2
    go_ret
    exact ⟨rfl, HE.out⟩
set_option maxRecDepth 100000 in
theorem rlen_any {w : World} {base g : Nat} {v : Value} {vs : List Value} {L : List (List Int)} (h : Hp 49 C49 w base g v vs L) (k n : Int) : Calls Try.prog 19 #[.pointer (some ⟨g, 0, none⟩), .agg #[.int .i64 k, .int .i64 n]] w (IP (lenH L k n) w) := by
  have hb0 := heap1 w (.cells #[.int .i64 k, .int .i64 n] 27)
  have hX := Bx.new w 27 [.int .i64 k, .int .i64 n]
  have HG := Lib.hid (h.below hb0)
  have HB0 := Lib.hid hb0
  have hfew := h.few
  obtain ⟨W0, hW0⟩ : ∃ W0, w.alloc (.cells #[.int .i64 k, .int .i64 n] 27) = W0 := ⟨_, rfl⟩
  rw [show (w.alloc (.cells [Value.int .i64 k, .int .i64 n].toArray 27)) = W0 from hW0] at hX
  rw [hW0] at HG HB0
  have HX := Lib.hid hX
  have x0 := (hX.cell 0).trans rfl
  have x1 := (hX.cell 1).trans rfl
  clear hX hb0 h
  have HH := Lib.hid (rhas_any HG.out k n)
  unfold lenH
  cases hb : hasB L k n
  · rw [hb] at HH
    show Calls _ _ _ _ (IP 0 w)
    clear hb
    go_enter Try.func19, Try.ntmps19
    go_wp2_with (go_at_call 40; refine HH.out.mono ?_; rintro e w1 ⟨rfl, hb1⟩)
    go_ret
    exact ⟨rfl, bt HB0.out hb1⟩
  · rw [hb] at HH
    obtain ⟨i, rfl, hi, hr⟩ := has_at hb
    rw [hr]
    clear hr
    show Calls _ _ _ _ (IP (L[i].length : Int) w)
    have HW := Lib.hid (wrap_pred i (by omega))
    have HI := Lib.hid hi
    clear hb
    go_enter Try.func19, Try.ntmps19
    go_wp2_with (go_at_call 40; refine HH.out.mono ?_; rintro e w1 ⟨rfl, hb1⟩)
    have hG1 := HG.out.below hb1
    obtain ⟨b, c, e1, hbl, A, d, hc, -⟩ := hG1.row HI.out
    have hg0 := (hG1.bx.cell 0).trans rfl
    rw [e1] at hg0
    have hX1 := HX.out.below hb1 HX.out.lt
    have s0 := cell_regrown hg0
    have s1 := cell_regrown ((hX1.cell 1).trans rfl)
    have s2 := cell_regrown hc
    have hiz : (i : Int) < (L.length : Int) := by have := HI.out; omega
    have HB1 := Lib.hid (bt HB0.out hb1)
    clear hg0 hX1 hc hb1 hG1 e1 x0 x1
    have hw := HW.out
    go_upto_region 3 with (fail)
    refine wp_region_quiet_below (by kernel_rfl) (by kernel_rfl) ?_
    repeat (first | go_big_quiet_step (first | fail))
    refine wpQuiet_nil ?_
    intro _ hw'
    obtain ⟨⟨dq, osq⟩, hw''⟩ := hw'
    subst hw''
    have hbq := below_regrown w1 dq osq
    generalize grow (redrawn w1 dq) osq = w9 at *
    have HE := Lib.hid (bt HB1.out hbq)
    clear hbq s0 s1 s2 hw
    go_wp2
    go_ret
    exact ⟨rfl, HE.out⟩
end Go.Proofs.Ytpeodpgihmcghaa
