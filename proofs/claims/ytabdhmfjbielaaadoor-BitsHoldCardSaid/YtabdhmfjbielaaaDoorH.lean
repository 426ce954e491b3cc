/- PROVED here: the contract of Of. No condition but those in each theorem's own head. -/
import Derived.Test.YtabdhmfjbielaaaDoorG
namespace Go.Proofs.YtabdhmfjbielaaaDoor
open Go Go.RowKit

/-- a slice of ints that reads as a list, nil let in -/
def Ints (w : World) (A : Option Addr) (l : List Int) : Prop :=
  0 < l.length → ∃ b off, A = some ⟨b, off, none⟩ ∧ b < w.heap.size ∧ ∀ j, j < l.length → w.cell? ⟨b, off + j, none⟩ = some (.int .i64 (l.getD j 0))
theorem Ints.below {w w' : World} {A : Option Addr} {l : List Int} (h : Ints w A l) (hb : Below w.heap.size w w') : Ints w' A l := fun h0 => by
  obtain ⟨b, off, e, hl, hc⟩ := h h0
  exact ⟨b, off, e, Nat.lt_of_lt_of_le hl hb.size, fun j hj => (hb.cell (p := ⟨b, off + j, none⟩) hl).trans (hc j hj)⟩
theorem ofL_take (l : List Int) (k : Nat) (hk : k < l.length) : ofL (l.take (k + 1)) = addI (ofL (l.take k)) (l.getD k 0) := by
  rw [List.take_succ_eq_append_getElem hk, ofL_snoc]
  congr 1
  simp [hk]
theorem heap1 (w : World) (A : Obj) : Below w.heap.size w (w.alloc A) := (Below.refl _ _).alloc (Nat.le_refl _) _

set_option maxHeartbeats 2000000 in
theorem Of (A : Option Addr) (c : Nat) (l : List Int) (w : World) (hl : l.length ≤ 4611686018427387904) (hA : Ints w A l) :
    Calls Tryd.prog 10 #[.slice A l.length c] w fun e w' => e = .returned (.agg (ofF (wd (ofL l)))) ∧ Below w.heap.size w w' := by
  have HA := Lib.hid hA
  clear hA
  go_enter Tryd.func10, Tryd.ntmps10
  go_upto_region 2 with fail
  refine gen_world (fun w1 => Below w.heap.size w w1 ∧ Blk w1 w.heap.size (ofF (wd 0)) ∧ Blk w1 (w.heap.size + 1) (ofF (wd 0))) ⟨below2 w _ _, (heap_alloc2_old w _ _).trans (by rw [zero_lit]), (heap_alloc2_new w _ _).trans (by rw [zero_lit])⟩ ?_
  rintro w1 ⟨hb, h1, h2⟩
  go_wp2
  go_loopw [8] (fun i wr => ∃ k : Nat, k ≤ l.length ∧ i = .int .i64 k ∧ Below w.heap.size w wr ∧ Blk wr w.heap.size (ofF (wd 0)) ∧ Blk wr (w.heap.size + 1) (ofF (wd (ofL (l.take k))))) (fun i _ => l.length - (intOf i).toNat)
  case atStart => exact ⟨0, by omega, rfl, hb, h1, h2⟩
  case round =>
    clear hb h1 h2
    obtain ⟨k, hk, rfl, hb, h1, h2⟩ := hrel
    by_cases hlt : k < l.length
    · have hlz : (k : Int) < (l.length : Int) := by omega
      obtain ⟨b, off, rfl, hbl, hcell⟩ := HA.out (by omega)
      have hck : wr.cell? ⟨b, off + k, none⟩ = some (.int .i64 (l.getD k 0)) := (hb.cell (p := ⟨b, off + k, none⟩) hbl).trans (hcell k hlt)
      have HST := Lib.hid (ofL_take l k hlt)
      clear hcell
      generalize hx : l.getD k 0 = x at *
      clear hx
      by_cases hf : 0 ≤ x ∧ x < 4096
      · obtain ⟨n, rfl⟩ : ∃ n : Nat, x = n := ⟨x.toNat, by omega⟩
        have hn : n < 4096 := by omega
        have hfa := fun w => fits_any n w
        rw [show fitsB n = true by simp [fitsB]; omega] at hfa
        have HFA := Lib.hid hfa
        clear hfa hf
        have hg : wr.cell? ⟨w.heap.size + 1, n / 64, none⟩ = some (.int .u64 (wd (ofL (l.take k)) (n / 64) : Int)) := (h2.cell _).trans (ofF_get _ _ (by omega))
        have hfz : wr.frozen? ⟨w.heap.size + 1, n / 64, none⟩ = false := h2.frozen _
        generalize hs : ofL (l.take k) = s at *
        clear hs
        go_wp2_with (first | (go_at_call 37; refine (HFA.out _).mono ?_; rintro e w' ⟨rfl, rfl⟩))
        have hx : IntKind.i64.wrap ((n : Int) / 64) = (n : Int) / 64 := IntWalk.i64_in _ (by omega)
        have hx0 : 0 ≤ (n : Int) / 64 := by omega
        have hx2 : ((n : Int) / 64).toNat = n / 64 := by omega
        have hx1 : (n : Int) / 64 < 64 := by omega
        refine wp_region_still_tail 10 (by kernel_rfl) (by kernel_rfl) ?_
        simp only [List.take_succ_cons, List.take_zero, List.drop_succ_cons, List.drop_zero]
        repeat (first | still_call (flip_ (mask_any _ hn _)) | still_step)
        refine wpStill_nil ?_
        clear hx hx2
        have hb2 : Below w.heap.size w wr.drew := ⟨hb.os, hb.tape, hb.output, hb.size, hb.block⟩
        have h1' : Blk wr.drew w.heap.size (ofF (wd 0)) := h1
        have h2' : Blk wr.drew (w.heap.size + 1) (ofF (wd s)) := h2
        have hg' : wr.drew.cell? ⟨w.heap.size + 1, n / 64, none⟩ = some (.int .u64 (wd s (n / 64) : Int)) := hg
        have hfz' : wr.drew.frozen? ⟨w.heap.size + 1, n / 64, none⟩ = false := hfz
        clear hb h1 h2 hg hfz hck
        change wpList _ _ _ _ _ wr.drew
        generalize wr.drew = w2 at *
        go_upto_region 7 with fail
        refine gen_world (fun w3 => Below w.heap.size w w3 ∧ Blk w3 w.heap.size (ofF (wd 0)) ∧ Blk w3 (w.heap.size + 1) (ofF (wd (s ||| 2 ^ n))))
          ⟨hb2.setCell (by simp) _, h1'.far (by simp) _, by
            rw [u64_or_nat _ _ (wd_lt _ _) (mask_lt _)]
            have := h2'.set_ (n / 64) (.int .u64 ((wd s (n / 64) ||| maskN n : Nat) : Int))
            rw [ofF_set, ofF_congr (fun i _ => wd_with s n i)] at this
            exact this⟩ ?_
        rintro w3 ⟨hb3, h31, h32⟩
        clear hg' hfz' h1' h2' hb2
        go_wp2
        go_roundw
        case rel => exact ⟨k + 1, by omega, by go_num, hb3, h31, by rw [HST.out]; unfold addI; rw [if_pos (by omega)]; exact h32⟩
        case measure => simp [intOf]; omega
      · have hfa := fun w => fits_any x w
        rw [show fitsB x = false by simp [fitsB]; omega] at hfa
        have HFA := Lib.hid hfa
        have HF := Lib.hid hf
        clear hfa hf
        go_wp2_with (first | (go_at_call 37; refine (HFA.out _).mono ?_; rintro e w' ⟨rfl, rfl⟩))
        go_roundw
        case rel => exact ⟨k + 1, by omega, by go_num, hb, h1, by rw [HST.out]; unfold addI; rw [if_neg HF.out]; exact h2⟩
        case measure => simp [intOf]; omega
    · have hlz : ¬ (k : Int) < (l.length : Int) := by omega
      have h2e : Blk wr (w.heap.size + 1) (ofF (wd (ofL l))) := by
        rw [List.take_of_length_le (by omega)] at h2; exact h2
      clear h2
      go_wp2_with (first | ((with_reducible apply load_lit); (exact rfl); assumption) | ((with_reducible apply store_lit); (exact rfl); (exact rfl); assumption))
      exact ret_set rfl rfl rfl (h1.setRow _) ⟨rfl, below_setRow hb (by omega) _⟩
end Go.Proofs.YtabdhmfjbielaaaDoor
