/- PROVED here: contracts of the document's own Has and Next over rising lists. No condition but those in each theorem's own head. -/
import Derived.Test.YtabdhmfjbielaaaDoorV
namespace Go.Proofs.YtabdhmfjbielaaaDoor
open Go Go.RowKit

theorem Ints.alloc {w : World} {A : Option Addr} {l : List Int} (h : Ints w A l) (o : Obj) : Ints (w.alloc o) A l := h.below (heap1 w o)
/-- is a number in a list -/
def inL (l : List Int) (n : Int) : Bool := decide (n ∈ l)
theorem notin_take {l : List Int} {k : Nat} {n : Int} (h : n ∉ l.take k) (hk : k < l.length) (hne : l.getD k 0 ≠ n) : n ∉ l.take (k + 1) := by
  rw [List.take_succ_eq_append_getElem hk]
  intro hm
  rcases List.mem_append.1 hm with hm | hm
  · exact h hm
  · simp at hm; apply hne; simp [hk, hm]

set_option maxRecDepth 100000 in
set_option maxHeartbeats 2000000 in
theorem RHas (A : Option Addr) (c : Nat) (l : List Int) (n : Int) (w : World) (hl : l.length ≤ 4096) (hI : Ints w A l) :
    Calls Tryd.prog 18 #[.agg #[.slice A l.length c], .int .i64 n] w fun e w' => e = .returned (.bool (inL l n)) ∧ Below w.heap.size w w' := by
  have HI := Lib.hid (hI.alloc (.cells #[.slice A l.length c] 30))
  clear hI
  have hb0 := heap1 w (.cells #[.slice A l.length c] 30)
  go_enter Tryd.func18, Tryd.ntmps18
  go_wp2_with fail
  go_loop [5] (fun i => ∃ k : Nat, k ≤ l.length ∧ i = .int .i64 k ∧ Hid (n ∉ l.take k)) (fun i => l.length - (intOf i).toNat)
  case atStart => exact ⟨0, by omega, rfl, Lib.hid (by simp)⟩
  case round =>
    obtain ⟨k, hk, rfl, HN⟩ := hrel
    by_cases hlt : k < l.length
    · have hlz : (k : Int) < (l.length : Int) := by omega
      obtain ⟨b, off, rfl, hb, hc⟩ := HI.out (by omega)
      have hck := hc k hlt
      clear hc
      by_cases he : l.getD k 0 = n
      · have hin : inL l n = true := by
          unfold inL; rw [decide_eq_true_eq, ← he]; simp [hlt]
        have HIN := Lib.hid hin
        rw [he] at hck
        clear hin he
        go_wp2
        go_ret
        exact ⟨ret_bool HIN.out.symm, hb0⟩
      · have HN2 := Lib.hid (notin_take HN.out hlt he)
        generalize l.getD k 0 = x at *
        have hq : (x == n) = false := by simpa using he
        clear he
        go_wp2
        go_round
        case rel => exact ⟨k + 1, by omega, by go_num, HN2⟩
        case measure => simp [intOf]; omega
    · have hlz : ¬ (k : Int) < (l.length : Int) := by omega
      have hin : inL l n = false := by
        have := HN.out
        rw [List.take_of_length_le (by omega)] at this
        unfold inL; exact decide_eq_false this
      have HIN := Lib.hid hin
      clear hin
      go_wp2
      go_ret
      exact ⟨ret_bool HIN.out.symm, hb0⟩
end Go.Proofs.YtabdhmfjbielaaaDoor
