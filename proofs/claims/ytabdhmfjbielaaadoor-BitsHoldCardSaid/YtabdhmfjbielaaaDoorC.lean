/- PROVED here: contracts of Or, And and Minus. No condition but those in each theorem's own head. -/
import Derived.Test.YtabdhmfjbielaaaDoorB
import Derived.LoopTactic
namespace Go.Proofs.YtabdhmfjbielaaaDoor
open Go Go.RowKit

/-- the first k words are made already -/
def mixF (op : Nat → Nat → Nat) (a b k i : Nat) : Nat := if i < k then op (wd a i) (wd b i) else wd a i
theorem mix_zero (op : Nat → Nat → Nat) (a b : Nat) : ofF (mixF op a b 0) = ofF (wd a) := ofF_congr fun i _ => by simp [mixF]
theorem mix_succ (op : Nat → Nat → Nat) (a b k i : Nat) : (if i = k then op (wd a k) (wd b k) else mixF op a b k i) = mixF op a b (k + 1) i := by
  unfold mixF
  by_cases h : i = k
  · subst h; rw [if_pos rfl, if_pos (by omega)]
  · rw [if_neg h]
    by_cases h2 : i < k
    · rw [if_pos h2, if_pos (by omega)]
    · rw [if_neg h2, if_neg (by omega)]
theorem three (w : World) (A B C : Obj) : (((w.alloc A).alloc B).alloc C).heap[w.heap.size]? = some A ∧ (((w.alloc A).alloc B).alloc C).heap[w.heap.size + 1]? = some B ∧ (((w.alloc A).alloc B).alloc C).heap[w.heap.size + 2]? = some C := by
  have e1 : (w.alloc A).heap.size = w.heap.size + 1 := by simp
  have e2 : ((w.alloc A).alloc B).heap.size = w.heap.size + 2 := by simp
  refine ⟨?_, ?_, ?_⟩
  · rw [Below.heap_alloc _ _ _ (by omega), Below.heap_alloc _ _ _ (by omega)]; exact heap_alloc_new w A
  · rw [Below.heap_alloc _ _ _ (by omega), ← e1]; exact heap_alloc_new _ B
  · rw [← e2]; exact heap_alloc_new _ C
theorem below3 (w : World) (A B C : Obj) : Below w.heap.size w (((w.alloc A).alloc B).alloc C) :=
  (((Below.refl _ _).alloc (Nat.le_refl _) _).alloc (by simp) _).alloc (by simp; omega) _

set_option maxHeartbeats 1000000 in
theorem Or (a b : Nat) (w : World) : Calls Tryd.prog 24 #[.agg (ofF (wd a)), .agg (ofF (wd b))] w fun e w' => e = .returned (.agg (ofF (wd (a ||| b)))) ∧ Below w.heap.size w w' := by
  go_enter Tryd.func24, Tryd.ntmps24
  go_wp2
  refine gen_world (fun w1 => Below w.heap.size w w1 ∧ Blk w1 w.heap.size (ofF (mixF (· ||| ·) a b 0)) ∧ Blk w1 (w.heap.size + 1) (ofF (wd b)) ∧ Blk w1 (w.heap.size + 2) (ofF (wd 0))) ⟨below3 w _ _ _, (three w _ _ _).1.trans (by rw [mix_zero]), (three w _ _ _).2.1, (three w _ _ _).2.2.trans (by rw [zero_lit])⟩ ?_
  rintro w1 ⟨hb, h1, h2, h3⟩
  go_loopw [6] (fun i wr => ∃ k : Nat, k ≤ 64 ∧ i = .int .i64 k ∧ Below w.heap.size w wr ∧ Blk wr w.heap.size (ofF (mixF (· ||| ·) a b k)) ∧ Blk wr (w.heap.size + 1) (ofF (wd b)) ∧ Blk wr (w.heap.size + 2) (ofF (wd 0))) (fun i _ => 64 - (intOf i).toNat)
  case atStart => exact ⟨0, by omega, rfl, hb, h1, h2, h3⟩
  case round =>
    clear hb h1 h2 h3
    obtain ⟨k, hk, rfl, hb, h1, h2, h3⟩ := hrel
    by_cases hlt : k < 64
    · have hlz : (k : Int) < 64 := by omega
      have hg1 : wr.cell? ⟨w.heap.size, k, none⟩ = some (.int .u64 (wd a k : Int)) := (h1.cell _).trans ((ofF_get _ _ hlt).trans (by simp [mixF]))
      have hg2 : wr.cell? ⟨w.heap.size + 1, k, none⟩ = some (.int .u64 (wd b k : Int)) := (h2.cell _).trans (ofF_get _ _ hlt)
      have hfz : wr.frozen? ⟨w.heap.size, k, none⟩ = false := h1.frozen _
      go_wp2
      refine wp_region_still_tail 11 (by kernel_rfl) (by kernel_rfl) ?_
      simp only [List.take_succ_cons, List.take_zero, List.drop_succ_cons, List.drop_zero]
      repeat still_step
      refine wpStill_nil ?_
      have hb2 : Below w.heap.size w wr.drew := ⟨hb.os, hb.tape, hb.output, hb.size, hb.block⟩
      have h1' : Blk wr.drew w.heap.size (ofF (mixF (· ||| ·) a b k)) := h1
      have h2' : Blk wr.drew (w.heap.size + 1) (ofF (wd b)) := h2
      have h3' : Blk wr.drew (w.heap.size + 2) (ofF (wd 0)) := h3
      have hg' : wr.drew.cell? ⟨w.heap.size, k, none⟩ = some (.int .u64 (wd a k : Int)) := hg1
      have hfz' : wr.drew.frozen? ⟨w.heap.size, k, none⟩ = false := hfz
      clear hb h1 h2 h3 hg1 hg2 hfz
      change wpList _ _ _ _ _ wr.drew
      generalize wr.drew = w2 at *
      go_upto_region 5 with fail
      refine gen_world (fun w3 => Below w.heap.size w w3 ∧ Blk w3 w.heap.size (ofF (mixF (· ||| ·) a b (k + 1))) ∧ Blk w3 (w.heap.size + 1) (ofF (wd b)) ∧ Blk w3 (w.heap.size + 2) (ofF (wd 0)))
        ⟨hb2.setCell (by simp) _, by
          rw [u64_or_nat _ _ (wd_lt _ _) (wd_lt _ _)]
          have := h1'.set_ k (.int .u64 ((wd a k ||| wd b k : Nat) : Int))
          rw [ofF_set, ofF_congr (fun i _ => mix_succ (· ||| ·) a b k i)] at this
          exact this, h2'.far (by simp) _, h3'.far (by simp) _⟩ ?_
      rintro w3 ⟨hb3, h31, h32, h33⟩
      clear hg' hfz' h1' h2' h3' hb2
      go_wp2
      go_roundw
      case rel => exact ⟨k + 1, by omega, by go_num, hb3, h31, h32, h33⟩
      case measure => simp [intOf]; omega
    · have hlz : ¬ (k : Int) < 64 := by omega
      have hk' : k = 64 := by omega
      have h1e : Blk wr w.heap.size (ofF (wd (a ||| b))) := by
        rw [ofF_congr (g := wd (a ||| b)) (fun i hi => by simp only [mixF]; rw [if_pos (by omega), ← wd_or])] at h1; exact h1
      clear h1 hk'
      go_wp2_with (first | ((with_reducible apply load_lit); (exact rfl); assumption) | ((with_reducible apply store_lit); (exact rfl); (exact rfl); assumption))
      exact ret_set rfl rfl rfl (h3.setRow _) ⟨rfl, below_setRow hb (by omega) _⟩


set_option maxHeartbeats 1000000 in
theorem And (a b : Nat) (w : World) : Calls Tryd.prog 26 #[.agg (ofF (wd a)), .agg (ofF (wd b))] w fun e w' => e = .returned (.agg (ofF (wd (a &&& b)))) ∧ Below w.heap.size w w' := by
  go_enter Tryd.func26, Tryd.ntmps26
  go_wp2
  refine gen_world (fun w1 => Below w.heap.size w w1 ∧ Blk w1 w.heap.size (ofF (mixF (· &&& ·) a b 0)) ∧ Blk w1 (w.heap.size + 1) (ofF (wd b)) ∧ Blk w1 (w.heap.size + 2) (ofF (wd 0))) ⟨below3 w _ _ _, (three w _ _ _).1.trans (by rw [mix_zero]), (three w _ _ _).2.1, (three w _ _ _).2.2.trans (by rw [zero_lit])⟩ ?_
  rintro w1 ⟨hb, h1, h2, h3⟩
  go_loopw [6] (fun i wr => ∃ k : Nat, k ≤ 64 ∧ i = .int .i64 k ∧ Below w.heap.size w wr ∧ Blk wr w.heap.size (ofF (mixF (· &&& ·) a b k)) ∧ Blk wr (w.heap.size + 1) (ofF (wd b)) ∧ Blk wr (w.heap.size + 2) (ofF (wd 0))) (fun i _ => 64 - (intOf i).toNat)
  case atStart => exact ⟨0, by omega, rfl, hb, h1, h2, h3⟩
  case round =>
    clear hb h1 h2 h3
    obtain ⟨k, hk, rfl, hb, h1, h2, h3⟩ := hrel
    by_cases hlt : k < 64
    · have hlz : (k : Int) < 64 := by omega
      have hg1 : wr.cell? ⟨w.heap.size, k, none⟩ = some (.int .u64 (wd a k : Int)) := (h1.cell _).trans ((ofF_get _ _ hlt).trans (by simp [mixF]))
      have hg2 : wr.cell? ⟨w.heap.size + 1, k, none⟩ = some (.int .u64 (wd b k : Int)) := (h2.cell _).trans (ofF_get _ _ hlt)
      have hfz : wr.frozen? ⟨w.heap.size, k, none⟩ = false := h1.frozen _
      go_wp2
      refine wp_region_still_tail 11 (by kernel_rfl) (by kernel_rfl) ?_
      simp only [List.take_succ_cons, List.take_zero, List.drop_succ_cons, List.drop_zero]
      repeat still_step
      refine wpStill_nil ?_
      have hb2 : Below w.heap.size w wr.drew := ⟨hb.os, hb.tape, hb.output, hb.size, hb.block⟩
      have h1' : Blk wr.drew w.heap.size (ofF (mixF (· &&& ·) a b k)) := h1
      have h2' : Blk wr.drew (w.heap.size + 1) (ofF (wd b)) := h2
      have h3' : Blk wr.drew (w.heap.size + 2) (ofF (wd 0)) := h3
      have hg' : wr.drew.cell? ⟨w.heap.size, k, none⟩ = some (.int .u64 (wd a k : Int)) := hg1
      have hfz' : wr.drew.frozen? ⟨w.heap.size, k, none⟩ = false := hfz
      clear hb h1 h2 h3 hg1 hg2 hfz
      change wpList _ _ _ _ _ wr.drew
      generalize wr.drew = w2 at *
      go_upto_region 5 with fail
      refine gen_world (fun w3 => Below w.heap.size w w3 ∧ Blk w3 w.heap.size (ofF (mixF (· &&& ·) a b (k + 1))) ∧ Blk w3 (w.heap.size + 1) (ofF (wd b)) ∧ Blk w3 (w.heap.size + 2) (ofF (wd 0)))
        ⟨hb2.setCell (by simp) _, by
          rw [u64_and_nat _ _ (wd_lt _ _) (wd_lt _ _)]
          have := h1'.set_ k (.int .u64 ((wd a k &&& wd b k : Nat) : Int))
          rw [ofF_set, ofF_congr (fun i _ => mix_succ (· &&& ·) a b k i)] at this
          exact this, h2'.far (by simp) _, h3'.far (by simp) _⟩ ?_
      rintro w3 ⟨hb3, h31, h32, h33⟩
      clear hg' hfz' h1' h2' h3' hb2
      go_wp2
      go_roundw
      case rel => exact ⟨k + 1, by omega, by go_num, hb3, h31, h32, h33⟩
      case measure => simp [intOf]; omega
    · have hlz : ¬ (k : Int) < 64 := by omega
      have hk' : k = 64 := by omega
      have h1e : Blk wr w.heap.size (ofF (wd (a &&& b))) := by
        rw [ofF_congr (g := wd (a &&& b)) (fun i hi => by simp only [mixF]; rw [if_pos (by omega), ← wd_and])] at h1; exact h1
      clear h1 hk'
      go_wp2_with (first | ((with_reducible apply load_lit); (exact rfl); assumption) | ((with_reducible apply store_lit); (exact rfl); (exact rfl); assumption))
      exact ret_set rfl rfl rfl (h3.setRow _) ⟨rfl, below_setRow hb (by omega) _⟩

set_option maxHeartbeats 1000000 in
theorem Minus (a b : Nat) (w : World) : Calls Tryd.prog 28 #[.agg (ofF (wd a)), .agg (ofF (wd b))] w fun e w' => e = .returned (.agg (ofF (wd (minus a b)))) ∧ Below w.heap.size w w' := by
  go_enter Tryd.func28, Tryd.ntmps28
  go_wp2
  refine gen_world (fun w1 => Below w.heap.size w w1 ∧ Blk w1 w.heap.size (ofF (mixF (fun x y => x &&& (18446744073709551615 - y)) a b 0)) ∧ Blk w1 (w.heap.size + 1) (ofF (wd b)) ∧ Blk w1 (w.heap.size + 2) (ofF (wd 0))) ⟨below3 w _ _ _, (three w _ _ _).1.trans (by rw [mix_zero]), (three w _ _ _).2.1, (three w _ _ _).2.2.trans (by rw [zero_lit])⟩ ?_
  rintro w1 ⟨hb, h1, h2, h3⟩
  go_loopw [6] (fun i wr => ∃ k : Nat, k ≤ 64 ∧ i = .int .i64 k ∧ Below w.heap.size w wr ∧ Blk wr w.heap.size (ofF (mixF (fun x y => x &&& (18446744073709551615 - y)) a b k)) ∧ Blk wr (w.heap.size + 1) (ofF (wd b)) ∧ Blk wr (w.heap.size + 2) (ofF (wd 0))) (fun i _ => 64 - (intOf i).toNat)
  case atStart => exact ⟨0, by omega, rfl, hb, h1, h2, h3⟩
  case round =>
    clear hb h1 h2 h3
    obtain ⟨k, hk, rfl, hb, h1, h2, h3⟩ := hrel
    by_cases hlt : k < 64
    · have hlz : (k : Int) < 64 := by omega
      have hg1 : wr.cell? ⟨w.heap.size, k, none⟩ = some (.int .u64 (wd a k : Int)) := (h1.cell _).trans ((ofF_get _ _ hlt).trans (by simp [mixF]))
      have hg2 : wr.cell? ⟨w.heap.size + 1, k, none⟩ = some (.int .u64 (wd b k : Int)) := (h2.cell _).trans (ofF_get _ _ hlt)
      have hfz : wr.frozen? ⟨w.heap.size, k, none⟩ = false := h1.frozen _
      go_wp2
      refine wp_region_still_tail 11 (by kernel_rfl) (by kernel_rfl) ?_
      simp only [List.take_succ_cons, List.take_zero, List.drop_succ_cons, List.drop_zero]
      repeat still_step
      refine wpStill_nil ?_
      have hb2 : Below w.heap.size w wr.drew := ⟨hb.os, hb.tape, hb.output, hb.size, hb.block⟩
      have h1' : Blk wr.drew w.heap.size (ofF (mixF (fun x y => x &&& (18446744073709551615 - y)) a b k)) := h1
      have h2' : Blk wr.drew (w.heap.size + 1) (ofF (wd b)) := h2
      have h3' : Blk wr.drew (w.heap.size + 2) (ofF (wd 0)) := h3
      have hg' : wr.drew.cell? ⟨w.heap.size, k, none⟩ = some (.int .u64 (wd a k : Int)) := hg1
      have hfz' : wr.drew.frozen? ⟨w.heap.size, k, none⟩ = false := hfz
      clear hb h1 h2 h3 hg1 hg2 hfz
      change wpList _ _ _ _ _ wr.drew
      generalize wr.drew = w2 at *
      go_upto_region 5 with fail
      refine gen_world (fun w3 => Below w.heap.size w w3 ∧ Blk w3 w.heap.size (ofF (mixF (fun x y => x &&& (18446744073709551615 - y)) a b (k + 1))) ∧ Blk w3 (w.heap.size + 1) (ofF (wd b)) ∧ Blk w3 (w.heap.size + 2) (ofF (wd 0)))
        ⟨hb2.setCell (by simp) _, by
          rw [u64_andNot_nat _ _ (wd_lt _ _) (wd_lt _ _)]
          have := h1'.set_ k (.int .u64 ((wd a k &&& (18446744073709551615 - wd b k) : Nat) : Int))
          rw [ofF_set, ofF_congr (fun i _ => mix_succ (fun x y => x &&& (18446744073709551615 - y)) a b k i)] at this
          exact this, h2'.far (by simp) _, h3'.far (by simp) _⟩ ?_
      rintro w3 ⟨hb3, h31, h32, h33⟩
      clear hg' hfz' h1' h2' h3' hb2
      go_wp2
      go_roundw
      case rel => exact ⟨k + 1, by omega, by go_num, hb3, h31, h32, h33⟩
      case measure => simp [intOf]; omega
    · have hlz : ¬ (k : Int) < 64 := by omega
      have hk' : k = 64 := by omega
      have h1e : Blk wr w.heap.size (ofF (wd (minus a b))) := by
        rw [ofF_congr (g := wd (minus a b)) (fun i hi => by simp only [mixF]; rw [if_pos (by omega), ← wd_minus])] at h1; exact h1
      clear h1 hk'
      go_wp2_with (first | ((with_reducible apply load_lit); (exact rfl); assumption) | ((with_reducible apply store_lit); (exact rfl); (exact rfl); assumption))
      exact ret_set rfl rfl rfl (h3.setRow _) ⟨rfl, below_setRow hb (by omega) _⟩

end Go.Proofs.YtabdhmfjbielaaaDoor
