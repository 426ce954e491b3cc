/- PROVED here: the contracts of bound, antisymmetric and hasBounds. No condition but those in each theorem's own head. -/
import Derived.Test.YtefnbjkmmmdagaaE
namespace Go.Proofs.Ytefnbjkmmmdagaa
open Go Go.RowKit

set_option maxRecDepth 100000 in
set_option maxHeartbeats 4000000 in
theorem bound_core (g n : Nat) (m : Nat → Nat) (a b : Nat) (r : Int) (H : Hid (bd n m a b = r)) (hn : n ≤ 16) (hf : Fit n m) (ha : a < n) (hb : b < n) (w : World) (hm : Mb w g n m) :
    Calls Try.prog 53 #[.slice (some ⟨g, 0, none⟩) n n, .int .i64 (a : Int), .int .i64 (b : Int)] w fun e w' => e = .returned (.int .i64 r) ∧ ∃ k, w' = w.drewN k := by
  have hca := hm.cell ha
  have hcb := hm.cell hb
  have haz : (a : Int) < (n : Int) := by omega
  have hbz : (b : Int) < (n : Int) := by omega
  have hand := and_nat (m a) (m b) (hf.lt16 hn ha) (hf.lt16 hn hb)
  have HI := Lib.hid (fun z (e : idxM n m z = r) (w : World) hm => indexM_core g n n n m z r (Nat.le_refl _) (Lib.hid e) w hn hm)
  have HZ := Lib.hid (show idxM n m (m a &&& m b) = r from H.out)
  have HM := Lib.hid hm
  clear hm hf H
  generalize m a &&& m b = z at *
  generalize m a = xa at *
  generalize m b = xb at *
  go_enter Try.func53, Try.ntmps53
  go_wp2_with fail
  go_quiet ((go_at_call 49; exact quiet_left (HI.out z HZ.out _ (HM.out.drewN _))))
  go_wp2
  go_ret
  exact ⟨rfl, nq, rfl⟩
theorem bound_any (g n : Nat) (m : Nat → Nat) (a b : Nat) (hn : n ≤ 16) (hf : Fit n m) (ha : a < n) (hb : b < n) (w : World) (hm : Mb w g n m) :
    Calls Try.prog 53 #[.slice (some ⟨g, 0, none⟩) n n, .int .i64 (a : Int), .int .i64 (b : Int)] w fun e w' => e = .returned (.int .i64 (bd n m a b)) ∧ ∃ k, w' = w.drewN k := bound_core g n m a b _ (Lib.hid rfl) hn hf ha hb w hm
/-- do all masks of a row differ -/
def antiB (n : Nat) (m : Nat → Nat) : Bool := (List.range n).all fun i => (List.range i).all fun j => m j != m i
/-- have any two levels a bound -/
def bndB (n : Nat) (m : Nat → Nat) : Bool := (List.range n).all fun a => (List.range a).all fun b => decide (0 ≤ bd n m a b)
theorem idxM_neg (i : Nat) (m : Nat → Nat) (x : Nat) : decide (0 ≤ idxM i m x) = !((List.range i).all fun j => m j != x) := by
  rcases idxM_spec i m x with ⟨h1, h2⟩ | ⟨k, hk, h1, h2, _⟩
  · rw [h1, List.all_eq_true.2 (fun j hj => by rw [bne_iff_ne]; exact h2 j (by simpa using hj))]; rfl
  · rw [h1, List.all_eq_false.2 ⟨k, by simpa using hk, by simp [h2]⟩]; simp
set_option maxRecDepth 100000 in
set_option maxHeartbeats 4000000 in
theorem anti_core (g n : Nat) (m : Nat → Nat) (r : Bool) (H : Hid (antiB n m = r)) (hn : n ≤ 16) (w : World) (hm : Mb w g n m) :
    Calls Try.prog 38 #[.slice (some ⟨g, 0, none⟩) n n] w fun e w' => e = .returned (.bool r) ∧ w = w' := by
  have HM := Lib.hid hm
  clear hm
  go_enter Try.func38, Try.ntmps38
  go_wp2
  go_loop [7] (fun i => ∃ k : Nat, k ≤ n ∧ i = .int .i64 (k : Int) ∧ Hid (∀ i, i < k → ((List.range i).all fun j => m j != m i) = true)) (fun i => n - (intOf i).toNat)
  case atStart => exact ⟨0, by omega, rfl, Lib.hid (fun j h => by omega)⟩
  case round =>
    obtain ⟨k, hk, rfl, HN⟩ := hrel
    by_cases hlt : k < n
    · have hlz : (k : Int) < (n : Int) := by omega
      have hkn : (k : Int) ≤ (n : Int) := by omega
      have hck := HM.out.cell hlt
      have HC := Lib.hid (fun w h => containsM g n k n m (m k) (by omega) w hn h)
      rw [idxM_neg] at HC
      cases hb : (List.range k).all fun j => m j != m k with
      | true =>
        have HN2 := Lib.hid (fun i (h : i < k + 1) => show ((List.range i).all fun j => m j != m i) = true by
          by_cases e : i = k
          · subst e; exact hb
          · exact HN.out i (by omega))
        rw [hb] at HC
        clear hb
        generalize m k = y at *
        go_wp2_with (go_at_call 52; refine (HC.out _ HM.out).mono ?_; rintro e w' ⟨rfl, rfl⟩)
        go_round
        case rel => exact ⟨k + 1, by omega, by go_num, HN2⟩
        case measure => simp [intOf]; omega
      | false =>
        have hr : false = r := by
          rw [← H.out]; unfold antiB
          rw [eq_comm, List.all_eq_false]; exact ⟨k, by simpa using hlt, by rw [hb]; decide⟩
        subst hr
        rw [hb] at HC
        clear hb
        generalize m k = y at *
        go_wp2_with (go_at_call 52; refine (HC.out _ HM.out).mono ?_; rintro e w' ⟨rfl, rfl⟩)
        go_ret
        exact ⟨rfl, rfl⟩
    · have hlz : ¬ (k : Int) < (n : Int) := by omega
      have hr : true = r := by
        rw [← H.out]; unfold antiB
        rw [eq_comm, List.all_eq_true]; intro i hi; exact HN.out i (by simp at hi; omega)
      subst hr
      go_wp2
      go_ret
      exact ⟨rfl, rfl⟩
set_option maxRecDepth 100000 in
set_option maxHeartbeats 4000000 in
theorem has_core (g n : Nat) (m : Nat → Nat) (r : Bool) (H : Hid (bndB n m = r)) (hn : n ≤ 16) (hf : Fit n m) (w : World) (hm : Mb w g n m) :
    Calls Try.prog 39 #[.slice (some ⟨g, 0, none⟩) n n] w fun e w' => e = .returned (.bool r) ∧ ∃ k, w' = w.drewN k := by
  have HM := Lib.hid hm
  have HF := Lib.hid hf
  clear hm hf
  go_enter Try.func39, Try.ntmps39
  go_wp2
  go_loopw [7] (fun i wr => ∃ k : Nat, k ≤ n ∧ i = .int .i64 (k : Int) ∧ Hid (∀ i, i < k → ((List.range i).all fun b => decide (0 ≤ bd n m i b)) = true) ∧ ∃ q, wr = w.drewN q) (fun i _ => n - (intOf i).toNat)
  case atStart => exact ⟨0, by omega, rfl, Lib.hid (fun j h => by omega), 0, rfl⟩
  case round =>
    obtain ⟨a, hk, rfl, HN, q, rfl⟩ := hrel
    by_cases hlt : a < n
    · have hlz : (a : Int) < (n : Int) := by omega
      go_wp2_with fail
      go_loopw [11] (fun i ws => ∃ b : Nat, b ≤ a ∧ i = .int .i64 (b : Int) ∧ Hid (∀ j, j < b → decide (0 ≤ bd n m a j) = true) ∧ ∃ q, ws = w.drewN q) (fun i _ => a - (intOf i).toNat)
      case atStart => exact ⟨0, by omega, rfl, Lib.hid (fun j h => by omega), q, rfl⟩
      case round =>
        obtain ⟨b, hb, rfl, HB, q', rfl⟩ := hrel
        by_cases hlb : b < a
        · have hlbz : (b : Int) < (a : Int) := by omega
          have HC := Lib.hid (fun w h => bound_any g n m a b hn HF.out (by omega) (by omega) w h)
          cases hd : decide (0 ≤ bd n m a b) with
          | true =>
            have HB2 := Lib.hid (fun j (h : j < b + 1) => show decide (0 ≤ bd n m a j) = true by
              by_cases e : j = b
              · subst e; exact hd
              · exact HB.out j (by omega))
            generalize bd n m a b = z at *
            have hz : ¬ z < 0 := by have := of_decide_eq_true hd; omega
            clear hd
            go_wp2_with (go_at_call 53; refine (HC.out _ (HM.out.drewN q')).mono ?_; rintro e w' ⟨rfl, q2, rfl⟩)
            go_roundw
            case rel => exact ⟨b + 1, by omega, by go_num, HB2, _, rfl⟩
            case measure => simp [intOf]; omega
          | false =>
            have hr : false = r := by
              rw [← H.out]; unfold bndB
              rw [eq_comm, List.all_eq_false]
              refine ⟨a, by simpa using hlt, ?_⟩
              rw [Bool.not_eq_true, List.all_eq_false]
              exact ⟨b, by simpa using hlb, by rw [hd]; decide⟩
            subst hr
            generalize bd n m a b = z at *
            have hz : z < 0 := by have := of_decide_eq_false hd; omega
            clear hd
            go_wp2_with (go_at_call 53; refine (HC.out _ (HM.out.drewN q')).mono ?_; rintro e w' ⟨rfl, q2, rfl⟩)
            go_ret
            exact ⟨rfl, _, rfl⟩
        · have hlbz : ¬ (b : Int) < (a : Int) := by omega
          have HN2 := Lib.hid (fun i (h : i < a + 1) => show ((List.range i).all fun b => decide (0 ≤ bd n m i b)) = true by
            by_cases e : i = a
            · subst e; rw [List.all_eq_true]; intro j hj; exact HB.out j (by simp at hj; omega)
            · exact HN.out i (by omega))
          go_wp2
          go_roundw
          case rel => exact ⟨a + 1, by omega, by go_num, HN2, _, rfl⟩
          case measure => simp [intOf]; omega
    · have hlz : ¬ (a : Int) < (n : Int) := by omega
      have hr : true = r := by
        rw [← H.out]; unfold bndB
        rw [eq_comm, List.all_eq_true]; intro i hi; exact HN.out i (by simp at hi; omega)
      subst hr
      go_wp2
      go_ret
      exact ⟨rfl, q, rfl⟩
end Go.Proofs.Ytefnbjkmmmdagaa
