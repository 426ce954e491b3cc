/- PROVED here: the contract of the document's own Next over a list that rises. No condition but those in each theorem's own head. -/
import Derived.Test.YtabdhmfjbielaaaDoorRa
namespace Go.Proofs.YtabdhmfjbielaaaDoor
open Go Go.RowKit

/-- the first one of a list that is n or more, or -1 -/
def firstGe (l : List Int) (n : Int) : Int := (l.find? fun x => decide (n ≤ x)).getD (-1)
theorem firstGe_hit {l : List Int} {n : Int} {k : Nat} (hk : k < l.length) (h : ∀ j, j < k → l.getD j 0 < n) (he : n ≤ l.getD k 0) : firstGe l n = l.getD k 0 := by
  unfold firstGe
  have : l.find? (fun x => decide (n ≤ x)) = some (l.getD k 0) := by
    rw [List.find?_eq_some_iff_getElem]
    have hg : l.getD k 0 = l[k] := by simp [hk]
    refine ⟨by simpa using he, k, hk, hg.symm, fun j hj => ?_⟩
    have := h j hj
    have hjl : j < l.length := by omega
    have hg2 : l.getD j 0 = l[j] := by simp [hjl]
    rw [hg2] at this
    simp; omega
  rw [this]; rfl
theorem firstGe_miss {l : List Int} {n : Int} (h : ∀ j, j < l.length → l.getD j 0 < n) : firstGe l n = -1 := by
  unfold firstGe
  have : l.find? (fun x => decide (n ≤ x)) = none := by
    rw [List.find?_eq_none]
    intro x hx
    obtain ⟨j, hj, rfl⟩ := List.getElem_of_mem hx
    have := h j hj
    have hg2 : l.getD j 0 = l[j] := by simp [hj]
    rw [hg2] at this
    simp; omega
  rw [this]; rfl

set_option maxRecDepth 100000 in
set_option maxHeartbeats 2000000 in
theorem rnext_core (A : Option Addr) (c : Nat) (l : List Int) (n r : Int) (H : Hid (firstGe l n = r)) (w : World) (hl : l.length ≤ 4096) (hI : Ints w A l) :
    Calls Tryd.prog 20 #[.agg #[.slice A l.length c], .int .i64 n] w fun e w' => e = .returned (.int .i64 r) ∧ Below w.heap.size w w' := by
  have HI := Lib.hid (hI.alloc (.cells #[.slice A l.length c] 30))
  clear hI
  have hb0 := heap1 w (.cells #[.slice A l.length c] 30)
  go_enter Tryd.func20, Tryd.ntmps20
  go_wp2_with fail
  go_loop [5] (fun i => ∃ k : Nat, k ≤ l.length ∧ i = .int .i64 k ∧ Hid (∀ j, j < k → l.getD j 0 < n)) (fun i => l.length - (intOf i).toNat)
  case atStart => exact ⟨0, by omega, rfl, Lib.hid (fun j h => by omega)⟩
  case round =>
    obtain ⟨k, hk, rfl, HN⟩ := hrel
    by_cases hlt : k < l.length
    · have hlz : (k : Int) < (l.length : Int) := by omega
      obtain ⟨b, off, rfl, hb, hc⟩ := HI.out (by omega)
      have hck := hc k hlt
      clear hc
      by_cases he : n ≤ l.getD k 0
      · have HR := Lib.hid ((firstGe_hit hlt HN.out he).symm.trans H.out)
        generalize l.getD k 0 = x at *
        have hd : decide (n ≤ x) = true := by simpa using he
        go_wp2
        go_ret
        exact ⟨ret_int HR.out, hb0⟩
      · have HN2 := Lib.hid (fun j (hj : j < k + 1) => show l.getD j 0 < n by
          by_cases e : j = k
          · subst e; omega
          · exact HN.out j (by omega))
        generalize l.getD k 0 = x at *
        have hd : decide (n ≤ x) = false := by simpa using he
        go_wp2
        go_round
        case rel => exact ⟨k + 1, by omega, by go_num, HN2⟩
        case measure => simp [intOf]; omega
    · have hlz : ¬ (k : Int) < (l.length : Int) := by omega
      have HR := Lib.hid ((firstGe_miss (n := n) (fun j hj => HN.out j (by omega))).symm.trans H.out)
      go_wp2
      go_ret
      exact ⟨ret_int HR.out, hb0⟩
theorem RNext (A : Option Addr) (c : Nat) (l : List Int) (n : Int) (w : World) (hl : l.length ≤ 4096) (hI : Ints w A l) :
    Calls Tryd.prog 20 #[.agg #[.slice A l.length c], .int .i64 n] w fun e w' => e = .returned (.int .i64 (firstGe l n)) ∧ Below w.heap.size w w' := rnext_core A c l n _ (Lib.hid rfl) w hl hI
end Go.Proofs.YtabdhmfjbielaaaDoor
