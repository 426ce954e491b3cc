/- PROVED here: the atomic count, and what the heaps tell of arrays: contracts. No condition but those in each theorem's own head. -/
import Derived.Test.YtpeodpgihmcghaaF
import Derived.Laws.LoneSync
import Derived.Laws.Pointers
import Derived.ChangeAlike
import Derived.RegionCalls
import Derived.Lib.QuietBelow
namespace Go.Proofs.Ytpeodpgihmcghaa
open Go Go.RowKit Go.Sort

theorem aload_any (a : Addr) (n : Int) (w : World) (hc : w.cell? a = some (.int .i64 n)) : Calls Try.prog 38 #[.pointer (some a)] w fun e w' => e = .returned (.int .i64 n) ∧ w = w' := by
  have hl := run_call_load (P := Try.prog) Try.func50 (by kernel_rfl) (by kernel_rfl) (by kernel_rfl) .i64 (by kernel_rfl) hc
  go_enter Try.func38, Try.ntmps38
  go_wp2
  go_ret
  exact ⟨rfl, rfl⟩
theorem aadd_any (a : Addr) (n d : Int) (w : World) (hc : w.cell? a = some (.int .i64 n)) (hz : w.frozen? a = false) : Calls Try.prog 44 #[.pointer (some a), .int .i64 d] w fun e w' => e = .returned (.int .i64 (wrap64 (n + d))) ∧ w' = w.setCell a (.int .i64 (wrap64 (n + d))) := by
  have hl := run_call_add (P := Try.prog) Try.func52 (by kernel_rfl) (by kernel_rfl) (by kernel_rfl) .i64 (by kernel_rfl) (y := d) (s := wrap64 (n + d)) hc hz (by simp [go_sem, wrap64, IntKind.wrap_i64])
  go_enter Try.func44, Try.ntmps44
  go_wp2
  go_ret
  exact ⟨rfl, rfl⟩
theorem astore_any (a : Addr) (x : Value) (d : Int) (w : World) (hc : w.cell? a = some x) (hz : w.frozen? a = false) : Calls Try.prog 42 #[.pointer (some a), .int .i64 d] w fun e w' => e = .returned (.tuple #[]) ∧ w' = w.setCell a (.int .i64 d) := by
  have hl := run_call_store (P := Try.prog) Try.func51 (by kernel_rfl) (by kernel_rfl) (by kernel_rfl) (by kernel_rfl) (k := .i64) (y := d) hc hz
  go_enter Try.func42, Try.ntmps42
  go_wp2
  go_end0
  exact ⟨rfl, rfl⟩
/-- how much of a heap is taken -/
theorem cells_any {w : World} {base g : Nat} {v : Value} {vs : List Value} {L : List (List Int)} (h : Hp 46 C46 w base g v vs L) : Calls Try.prog 16 #[.pointer (some ⟨g, 0, none⟩)] w fun e w' => e = .returned (.int .i64 (cellsL L)) ∧ w = w' := by
  have c1 := (h.bx.cell 1).trans rfl
  have HA := Lib.hid (fun W n => aload_any ⟨g, 1, none⟩ n W)
  clear h
  go_enter Try.func16, Try.ntmps16
  go_wp2_with (go_at_call 38; refine (HA.out _ _ c1).mono ?_; rintro e w' ⟨rfl, rfl⟩)
  go_ret
  exact ⟨rfl, rfl⟩
/-- is a value an array of the heap? -/
theorem has_any {w : World} {base g : Nat} {v : Value} {vs : List Value} {L : List (List Int)} (h : Hp 46 C46 w base g v vs L) (k n : Int) : Calls Try.prog 39 #[.pointer (some ⟨g, 0, none⟩), .agg #[.int .i64 k, .int .i64 n]] w (BP (hasB L k n) w) := by
  obtain ⟨A, c, rfl⟩ := h.slice
  have hb0 := heap1 w (.cells #[.int .i64 k, .int .i64 n] 23)
  have hX := Bx.new w 23 [.int .i64 k, .int .i64 n]
  have hG := h.bx.below hb0 h.bx.lt
  have HB0 := Lib.hid hb0
  have hfew := h.few
  obtain ⟨W0, hW0⟩ : ∃ W0, w.alloc (.cells #[.int .i64 k, .int .i64 n] 23) = W0 := ⟨_, rfl⟩
  rw [show (w.alloc (.cells [Value.int .i64 k, .int .i64 n].toArray 23)) = W0 from hW0] at hX
  rw [hW0] at hG HB0
  have s0 := cell_regrown ((hX.cell 0).trans rfl)
  have s1 := cell_regrown ((hX.cell 1).trans rfl)
  have s2 := cell_regrown ((hG.cell 0).trans rfl)
  clear hb0 hX hG h
  generalize hm : L.length = m at *
  unfold hasB
  rw [hm]
  clear hm
  cases h1 : decide (k = 3)
  · have k1 : (k == 3) = false := by rw [← h1]; rfl
    clear h1
    go_enter Try.func39, Try.ntmps39
    go_upto_region 1 with (fail)
    refine wp_region_quiet_below (by kernel_rfl) (by kernel_rfl) ?_
    repeat (first | go_big_quiet_step (first | fail))
    refine wpQuiet_nil ?_
    intro _ hw'
    obtain ⟨⟨dq, osq⟩, hw''⟩ := hw'
    subst hw''
    have hbq := below_regrown W0 dq osq
    generalize grow (redrawn W0 dq) osq = w9 at *
    go_wp2
    go_ret
    exact ⟨rfl, bt HB0.out hbq⟩
  · have k1 : (k == 3) = true := by rw [← h1]; rfl
    clear h1
    cases h2 : decide (1 ≤ n)
    · go_enter Try.func39, Try.ntmps39
      go_upto_region 1 with (fail)
      refine wp_region_quiet_below (by kernel_rfl) (by kernel_rfl) ?_
      repeat (first | go_big_quiet_step (first | fail))
      refine wpQuiet_nil ?_
      intro _ hw'
      obtain ⟨⟨dq, osq⟩, hw''⟩ := hw'
      subst hw''
      have hbq := below_regrown W0 dq osq
      generalize grow (redrawn W0 dq) osq = w9 at *
      go_wp2
      go_ret
      exact ⟨rfl, bt HB0.out hbq⟩
    · cases h3 : decide (n ≤ (m : Int)) <;>
      · go_enter Try.func39, Try.ntmps39
        go_upto_region 1 with (fail)
        refine wp_region_quiet_below (by kernel_rfl) (by kernel_rfl) ?_
        repeat (first | go_big_quiet_step (first | fail))
        refine wpQuiet_nil ?_
        intro _ hw'
        obtain ⟨⟨dq, osq⟩, hw''⟩ := hw'
        subst hw''
        have hbq := below_regrown W0 dq osq
        generalize grow (redrawn W0 dq) osq = w9 at *
        go_wp2
        go_ret
        exact ⟨rfl, bt HB0.out hbq⟩
/-- is a value an array of the heap? -/
theorem rhas_any {w : World} {base g : Nat} {v : Value} {vs : List Value} {L : List (List Int)} (h : Hp 49 C49 w base g v vs L) (k n : Int) : Calls Try.prog 40 #[.pointer (some ⟨g, 0, none⟩), .agg #[.int .i64 k, .int .i64 n]] w (BP (hasB L k n) w) := by
  obtain ⟨A, c, rfl⟩ := h.slice
  have hb0 := heap1 w (.cells #[.int .i64 k, .int .i64 n] 27)
  have hX := Bx.new w 27 [.int .i64 k, .int .i64 n]
  have hG := h.bx.below hb0 h.bx.lt
  have HB0 := Lib.hid hb0
  have hfew := h.few
  obtain ⟨W0, hW0⟩ : ∃ W0, w.alloc (.cells #[.int .i64 k, .int .i64 n] 27) = W0 := ⟨_, rfl⟩
  rw [show (w.alloc (.cells [Value.int .i64 k, .int .i64 n].toArray 27)) = W0 from hW0] at hX
  rw [hW0] at hG HB0
  have s0 := cell_regrown ((hX.cell 0).trans rfl)
  have s1 := cell_regrown ((hX.cell 1).trans rfl)
  have s2 := cell_regrown ((hG.cell 0).trans rfl)
  clear hb0 hX hG h
  generalize hm : L.length = m at *
  unfold hasB
  rw [hm]
  clear hm
  cases h1 : decide (k = 3)
  · have k1 : (k == 3) = false := by rw [← h1]; rfl
    clear h1
    go_enter Try.func40, Try.ntmps40
    go_upto_region 1 with (fail)
    refine wp_region_quiet_below (by kernel_rfl) (by kernel_rfl) ?_
    repeat (first | go_big_quiet_step (first | fail))
    refine wpQuiet_nil ?_
    intro _ hw'
    obtain ⟨⟨dq, osq⟩, hw''⟩ := hw'
    subst hw''
    have hbq := below_regrown W0 dq osq
    generalize grow (redrawn W0 dq) osq = w9 at *
    go_wp2
    go_ret
    exact ⟨rfl, bt HB0.out hbq⟩
  · have k1 : (k == 3) = true := by rw [← h1]; rfl
    clear h1
    cases h2 : decide (1 ≤ n)
    · go_enter Try.func40, Try.ntmps40
      go_upto_region 1 with (fail)
      refine wp_region_quiet_below (by kernel_rfl) (by kernel_rfl) ?_
      repeat (first | go_big_quiet_step (first | fail))
      refine wpQuiet_nil ?_
      intro _ hw'
      obtain ⟨⟨dq, osq⟩, hw''⟩ := hw'
      subst hw''
      have hbq := below_regrown W0 dq osq
      generalize grow (redrawn W0 dq) osq = w9 at *
      go_wp2
      go_ret
      exact ⟨rfl, bt HB0.out hbq⟩
    · cases h3 : decide (n ≤ (m : Int)) <;>
      · go_enter Try.func40, Try.ntmps40
        go_upto_region 1 with (fail)
        refine wp_region_quiet_below (by kernel_rfl) (by kernel_rfl) ?_
        repeat (first | go_big_quiet_step (first | fail))
        refine wpQuiet_nil ?_
        intro _ hw'
        obtain ⟨⟨dq, osq⟩, hw''⟩ := hw'
        subst hw''
        have hbq := below_regrown W0 dq osq
        generalize grow (redrawn W0 dq) osq = w9 at *
        go_wp2
        go_ret
        exact ⟨rfl, bt HB0.out hbq⟩
end Go.Proofs.Ytpeodpgihmcghaa
