/- PROVED here: contracts of With, Without and Has for every number. No condition but those in each theorem's own head. -/
import Derived.Test.YtabdhmfjbielaaaDoorA
namespace Go.Proofs.YtabdhmfjbielaaaDoor
open Go Go.RowKit

theorem without_fits (s n : Nat) (hn : n < 4096) (w : World) : Calls Tryd.prog 15 #[.agg (ofF (wd s)), .int .i64 (n : Int)] w fun e w' => e = .returned (.agg (ofF (wd (minus s (2 ^ n))))) ∧ Below w.heap.size w w' := by
  have hf : fitsB n = true := by simp [fitsB]; omega
  have hfa := fun w => fits_any n w
  rw [hf] at hfa
  have HFA := Lib.hid hfa
  clear hfa hf
  go_enter Tryd.func15, Tryd.ntmps15
  go_wp2_with (first | (go_at_call 37; refine (HFA.out _).mono ?_; rintro e w' ⟨rfl, rfl⟩))
  refine gen_world (fun w1 => Below w.heap.size w w1 ∧ w1.heap.size = w.heap.size + 2 ∧ Blk w1 w.heap.size (ofF (wd s)) ∧ Blk w1 (w.heap.size + 1) (ofF (wd 0))) ⟨((Below.refl _ _).alloc (Nat.le_refl _) _).alloc (by simp) _, by simp, heap_alloc2_old w _ _, (heap_alloc2_new w _ _).trans (by rw [zero_lit])⟩ ?_
  rintro w1 ⟨hb, hz, h1, h2⟩
  have hg : w1.cell? ⟨w.heap.size, n / 64, none⟩ = some (.int .u64 (wd s (n / 64) : Int)) := (h1.cell _).trans (ofF_get _ _ (by omega))
  have hfz : w1.frozen? ⟨w.heap.size, n / 64, none⟩ = false := h1.frozen _
  have hx : IntKind.i64.wrap ((n : Int) / 64) = (n : Int) / 64 := IntWalk.i64_in _ (by omega)
  have hx0 : 0 ≤ (n : Int) / 64 := by omega
  have hx2 : ((n : Int) / 64).toNat = n / 64 := by omega
  have hx1 : (n : Int) / 64 < 64 := by omega
  refine wp_region_still_tail 10 (by kernel_rfl) (by kernel_rfl) ?_
  simp only [List.take_succ_cons, List.take_zero, List.drop_succ_cons, List.drop_zero]
  repeat (first | still_call (flip_ (mask_any _ hn _)) | still_step)
  refine wpStill_nil ?_
  clear hx hx2
  have hb2 : Below w.heap.size w w1.drew := ⟨hb.os, hb.tape, hb.output, hb.size, hb.block⟩
  have h1' : Blk w1.drew w.heap.size (ofF (wd s)) := h1
  have h2' : Blk w1.drew (w.heap.size + 1) (ofF (wd 0)) := h2
  have hg' : w1.drew.cell? ⟨w.heap.size, n / 64, none⟩ = some (.int .u64 (wd s (n / 64) : Int)) := hg
  have hfz' : w1.drew.frozen? ⟨w.heap.size, n / 64, none⟩ = false := hfz
  clear hb h1 h2 hg hfz hz
  change wpList _ _ _ _ _ w1.drew
  generalize w1.drew = w2 at *
  go_upto_region 3 with fail
  refine gen_world (fun w3 => Below w.heap.size w w3 ∧ Blk w3 w.heap.size (ofF (wd (minus s (2 ^ n)))) ∧ Blk w3 (w.heap.size + 1) (ofF (wd 0)))
    ⟨hb2.setCell (by simp) _, by
      rw [u64_andNot_nat _ _ (wd_lt _ _) (mask_lt _)]
      have := h1'.set_ (n / 64) (.int .u64 ((wd s (n / 64) &&& (18446744073709551615 - maskN n) : Nat) : Int))
      rw [ofF_set, ofF_congr (fun i _ => wd_without s n i)] at this
      exact this, h2'.far (by simp) _⟩ ?_
  rintro w3 ⟨hb3, h31, h32⟩
  clear hg' hfz' h1' h2' hb2
  go_wp2_with (first | ((with_reducible apply load_lit); (exact rfl); assumption) | ((with_reducible apply store_lit); (exact rfl); (exact rfl); assumption))
  exact ret_set rfl rfl rfl (h32.setRow _) ⟨rfl, below_setRow hb3 (by omega) _⟩

theorem with_no (s : Nat) (n : Int) (hn : ¬ (0 ≤ n ∧ n < 4096)) (w : World) : Calls Tryd.prog 13 #[.agg (ofF (wd s)), .int .i64 n] w fun e w' => e = .returned (.agg (ofF (wd s))) ∧ Below w.heap.size w w' := by
  have hf : fitsB n = false := by simp [fitsB]; omega
  have hfa := fun w => fits_any n w
  rw [hf] at hfa
  have HFA := Lib.hid hfa
  clear hfa hf hn
  go_enter Tryd.func13, Tryd.ntmps13
  go_upto_region 3 with (first | (go_at_call 37; refine (HFA.out _).mono ?_; rintro e w' ⟨rfl, rfl⟩))
  refine gen_world (fun w1 => Below w.heap.size w w1 ∧ Blk w1 w.heap.size (ofF (wd s)) ∧ Blk w1 (w.heap.size + 1) (ofF (wd 0))) ⟨((Below.refl _ _).alloc (Nat.le_refl _) _).alloc (by simp) _, heap_alloc2_old w _ _, (heap_alloc2_new w _ _).trans (by rw [zero_lit])⟩ ?_
  rintro w1 ⟨hb, h1, h2⟩
  go_wp2_with (first | ((with_reducible apply load_lit); (exact rfl); assumption) | ((with_reducible apply store_lit); (exact rfl); (exact rfl); assumption))
  exact ret_set rfl rfl rfl (h2.setRow _) ⟨rfl, below_setRow hb (by omega) _⟩

theorem without_no (s : Nat) (n : Int) (hn : ¬ (0 ≤ n ∧ n < 4096)) (w : World) : Calls Tryd.prog 15 #[.agg (ofF (wd s)), .int .i64 n] w fun e w' => e = .returned (.agg (ofF (wd s))) ∧ Below w.heap.size w w' := by
  have hf : fitsB n = false := by simp [fitsB]; omega
  have hfa := fun w => fits_any n w
  rw [hf] at hfa
  have HFA := Lib.hid hfa
  clear hfa hf hn
  go_enter Tryd.func15, Tryd.ntmps15
  go_upto_region 3 with (first | (go_at_call 37; refine (HFA.out _).mono ?_; rintro e w' ⟨rfl, rfl⟩))
  refine gen_world (fun w1 => Below w.heap.size w w1 ∧ Blk w1 w.heap.size (ofF (wd s)) ∧ Blk w1 (w.heap.size + 1) (ofF (wd 0))) ⟨((Below.refl _ _).alloc (Nat.le_refl _) _).alloc (by simp) _, heap_alloc2_old w _ _, (heap_alloc2_new w _ _).trans (by rw [zero_lit])⟩ ?_
  rintro w1 ⟨hb, h1, h2⟩
  go_wp2_with (first | ((with_reducible apply load_lit); (exact rfl); assumption) | ((with_reducible apply store_lit); (exact rfl); (exact rfl); assumption))
  exact ret_set rfl rfl rfl (h2.setRow _) ⟨rfl, below_setRow hb (by omega) _⟩

theorem has_no (s : Nat) (n : Int) (hn : ¬ (0 ≤ n ∧ n < 4096)) (w : World) : Calls Tryd.prog 17 #[.agg (ofF (wd s)), .int .i64 n] w fun e w' => e = .returned (.bool false) ∧ Below w.heap.size w w' := by
  have hf : fitsB n = false := by simp [fitsB]; omega
  have hfa := fun w => fits_any n w
  rw [hf] at hfa
  have HFA := Lib.hid hfa
  clear hfa hf hn
  go_enter Tryd.func17, Tryd.ntmps17
  go_wp2
  go_quiet (first | (go_at_call 37; exact quiet_left (HFA.out _)))
  go_wp2
  go_ret
  exact ⟨rfl, below_drewN ((Below.refl _ _).alloc (Nat.le_refl _) _) _⟩

/-- the set without a number; is a number in it -/
def delI (s : Nat) (n : Int) : Nat := if 0 ≤ n ∧ n < 4096 then minus s (2 ^ n.toNat) else s
def hasI (s : Nat) (n : Int) : Bool := decide (0 ≤ n ∧ n < 4096) && s.testBit n.toNat
theorem With (s : Nat) (n : Int) (w : World) : Calls Tryd.prog 13 #[.agg (ofF (wd s)), .int .i64 n] w fun e w' => e = .returned (.agg (ofF (wd (addI s n)))) ∧ Below w.heap.size w w' := by
  unfold addI
  by_cases h : 0 ≤ n ∧ n < 4096
  · rw [if_pos h]
    obtain ⟨k, rfl⟩ : ∃ k : Nat, n = k := ⟨n.toNat, by omega⟩
    exact with_fits s k (by omega) w
  · rw [if_neg h]; exact with_no s n h w
theorem Without (s : Nat) (n : Int) (w : World) : Calls Tryd.prog 15 #[.agg (ofF (wd s)), .int .i64 n] w fun e w' => e = .returned (.agg (ofF (wd (delI s n)))) ∧ Below w.heap.size w w' := by
  unfold delI
  by_cases h : 0 ≤ n ∧ n < 4096
  · rw [if_pos h]
    obtain ⟨k, rfl⟩ : ∃ k : Nat, n = k := ⟨n.toNat, by omega⟩
    exact without_fits s k (by omega) w
  · rw [if_neg h]; exact without_no s n h w
theorem Has (s : Nat) (n : Int) (w : World) : Calls Tryd.prog 17 #[.agg (ofF (wd s)), .int .i64 n] w fun e w' => e = .returned (.bool (hasI s n)) ∧ Below w.heap.size w w' := by
  unfold hasI
  by_cases h : 0 ≤ n ∧ n < 4096
  · obtain ⟨k, rfl⟩ : ∃ k : Nat, n = k := ⟨n.toNat, by omega⟩
    rw [decide_eq_true h, Bool.true_and]
    exact has_any s k (by omega) w
  · rw [decide_eq_false h, Bool.false_and]; exact has_no s n h w
end Go.Proofs.YtabdhmfjbielaaaDoor
