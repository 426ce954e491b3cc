/- PROVED here: the contract of the document's rises. No condition but those in each theorem's own head. -/
import Derived.Test.YtcnmkmdedeiffaaTh
namespace Go.Proofs.Ytcnmkmdedeiffaa
open Go Go.RowKit

/-- how many of a stand at place i and behind it -/
def run1 (a : Int) : List Int → Nat
  | [] => 0
  | x :: l => if x = a then run1 a l + 1 else 0
theorem run1_le (a : Int) : ∀ l, run1 a l ≤ l.length
  | [] => Nat.le_refl _
  | x :: l => by
    unfold run1
    have := run1_le a l
    split
    · rw [List.length_cons]; omega
    · omega
theorem run1_at (a : Int) (l : List Int) (i : Nat) (h : i < l.length) : run1 a (l.drop i) = if l[i] = a then run1 a (l.drop (i + 1)) + 1 else 0 := by
  rw [List.drop_eq_getElem_cons h]; rfl
/-- where those of a, and then those of b, end -/
def ri1 (l : List Int) (a : Int) : Nat := run1 a l
def ri2 (l : List Int) (a b : Int) : Nat := ri1 l a + run1 b (l.drop (ri1 l a))
theorem ri1_le (l : List Int) (a : Int) : ri1 l a ≤ l.length := run1_le a l
theorem ri2_le (l : List Int) (a b : Int) : ri2 l a b ≤ l.length := by
  unfold ri2
  have h1 := ri1_le l a
  have h2 := run1_le b (l.drop (ri1 l a))
  rw [List.length_drop] at h2
  omega
def risB (l : List Int) (a b c : Int) : Bool := if c = 0 then decide (ri2 l a b = l.length) else decide (ri2 l a b + 1 = l.length) && decide (l.getD (ri2 l a b) 0 = c)
set_option maxRecDepth 100000 in
set_option maxHeartbeats 1500000 in
theorem rises_any (K : Option Addr) (n cc : Nat) (l : List Int) (a b c : Int) (w : World) (hI : Ints w K l) (hn : n = l.length) (hl : n ≤ 4000) : Calls Try.prog 51 #[.slice K n cc, .int .i64 a, .int .i64 b, .int .i64 c] w (BPost (risB l a b c) w) := by
  have HI := Lib.hid hI
  have HL := Lib.hid hn
  clear hI hn
  go_enter Try.func51, Try.ntmps51
  go_wp2
  go_loop [9] (fun i => ∃ j : Nat, j ≤ n ∧ i = .int .i64 (j : Int) ∧ j + run1 a (l.drop j) = ri1 l a) (fun i => n - (intOf i).toNat)
  case atStart => exact ⟨0, Nat.zero_le _, rfl, by rw [List.drop_zero]; unfold ri1; omega⟩
  case round =>
    obtain ⟨j, hj, rfl, hrun⟩ := hrel
    have HR := Lib.hid hrun
    clear hrun
    by_cases hjl : j < n
    · have hjz : (j : Int) < (n : Int) := by omega
      have hjl2 : j < l.length := by rw [← HL.out]; exact hjl
      obtain ⟨bK, oK, eK, hbK, hcK⟩ := HI.out (by omega)
      have hck := hcK j hjl2
      have HRA := Lib.hid (run1_at a l j hjl2)
      clear hcK
      by_cases g : l[j] = a
      · have HR3 := Lib.hid (show j + 1 + run1 a (l.drop (j + 1)) = ri1 l a by have h1 := HR.out; rw [HRA.out, if_pos g] at h1; omega)
        have q5 : (a == a) = true := by simp
        rw [g] at hck
        cases eK
        clear g HR HRA
        go_wp2
        go_round
        case rel => exact ⟨j + 1, by omega, by go_num, HR3.out⟩
        case measure => simp [intOf]; omega
      · have HJ := Lib.hid (show j = ri1 l a by have h1 := HR.out; rw [HRA.out, if_neg g] at h1; omega)
        have q5 : (l[j] == a) = false := by simpa using g
        obtain ⟨kj, hkj⟩ : ∃ kj, l[j] = kj := ⟨_, rfl⟩
        rw [hkj] at hck q5
        cases eK
        clear g HR HRA hkj
        go_wp2
        go_loop [9] (fun i => ∃ t : Nat, t ≤ n ∧ i = .int .i64 (t : Int) ∧ t + run1 b (l.drop t) = ri2 l a b) (fun i => n - (intOf i).toNat)
        case atStart => exact ⟨j, hj, rfl, by unfold ri2; rw [← HJ.out]⟩
        case round =>
          clear hjz
          obtain ⟨i, hi, rfl, hrun⟩ := hrel
          have HR2 := Lib.hid hrun
          clear hrun
          by_cases hil : i < n
          · have hiz : (i : Int) < (n : Int) := by omega
            have hil2 : i < l.length := by rw [← HL.out]; exact hil
            obtain ⟨bL, oL, eL, hbL, hcL⟩ := HI.out (by omega)
            have hcl := hcL i hil2
            have HRA2 := Lib.hid (run1_at b l i hil2)
            clear hcL
            by_cases g : l[i] = b
            · have HR3 := Lib.hid (show i + 1 + run1 b (l.drop (i + 1)) = ri2 l a b by have h1 := HR2.out; rw [HRA2.out, if_pos g] at h1; omega)
              have q5 : (b == b) = true := by simp
              rw [g] at hcl
              cases eL
              clear g HR2 HRA2
              go_wp2
              go_round
              case rel => exact ⟨i + 1, by omega, by go_num, HR3.out⟩
              case measure => simp [intOf]; omega
            · have HEQ := Lib.hid (show i = ri2 l a b by have h1 := HR2.out; rw [HRA2.out, if_neg g] at h1; omega)
              have q5 : (l[i] == b) = false := by simpa using g
              obtain ⟨ki, hki⟩ : ∃ ki, l[i] = ki := ⟨_, rfl⟩
              rw [hki] at hcl q5
              cases eL
              have HKI := Lib.hid hki
              clear g HR2 HRA2 hki
              have hi1 : i ≤ l.length := by rw [← HL.out]; exact hi
              by_cases hc : c = 0
              · subst hc
                by_cases e : i = n
                · subst e
                  have HE := Lib.hid (show risB l a b 0 = true by unfold risB; rw [if_pos rfl]; exact decide_eq_true (by rw [← HEQ.out]; exact HL.out))
                  go_wp2
                  go_ret
                  exact ⟨ret_bool HE.out.symm, Below.refl _ _⟩
                · have q2 : ((i : Int) == (n : Int)) = false := by simp; omega
                  have HE := Lib.hid (show risB l a b 0 = false by unfold risB; rw [if_pos rfl]; exact decide_eq_false (by rw [← HEQ.out, ← HL.out]; exact e))
                  go_wp2
                  go_ret
                  exact ⟨ret_bool HE.out.symm, Below.refl _ _⟩
              · have qc : (c != 0) = true := by simpa using hc
                by_cases e : i + 1 = n
                · have hil : i < l.length := by rw [← HL.out]; omega
                  have q2 : ((i : Int) == (n : Int) - 1) = true := by simp; omega
                  have hin : i < n := by omega
                  have HGD := Lib.hid (show l.getD (ri2 l a b) 0 = ki by rw [← HEQ.out]; simp [List.getD, hil]; exact HKI.out)
                  have HE1 := Lib.hid (show ri2 l a b + 1 = l.length by rw [← HEQ.out, ← HL.out]; exact e)
                  by_cases g : ki = c
                  · subst g
                    have HE := Lib.hid (show risB l a b ki = true by unfold risB; rw [if_neg hc, HGD.out]; simp [HE1.out])
                    clear hc
                    go_wp2
                    go_ret
                    exact ⟨ret_bool HE.out.symm, Below.refl _ _⟩
                  · have q3 : (ki == c) = false := by simpa using g
                    have HE := Lib.hid (show risB l a b c = false by unfold risB; rw [if_neg hc, HGD.out]; simp [g])
                    clear hc g
                    go_wp2
                    go_ret
                    exact ⟨ret_bool HE.out.symm, Below.refl _ _⟩
                · have q2 : ((i : Int) == (n : Int) - 1) = false := by simp; omega
                  have HE := Lib.hid (show risB l a b c = false by unfold risB; rw [if_neg hc, ← HEQ.out, ← HL.out]; simp [e])
                  clear hc
                  go_wp2
                  go_ret
                  exact ⟨ret_bool HE.out.symm, Below.refl _ _⟩
          · obtain rfl : i = n := by omega
            have hiz : ¬ (i : Int) < (i : Int) := by omega
            have HEQ := Lib.hid (show i = ri2 l a b by have h1 := HR2.out; have h2 := HL.out; rw [List.drop_of_length_le (by omega)] at h1; simpa [run1] using h1)
            clear HR2
            have hi1 : i ≤ l.length := by rw [← HL.out]; exact hi
            by_cases hc : c = 0
            · subst hc
              by_cases e : i = i
              · clear e
                have HE := Lib.hid (show risB l a b 0 = true by unfold risB; rw [if_pos rfl]; exact decide_eq_true (by rw [← HEQ.out]; exact HL.out))
                go_wp2
                go_ret
                exact ⟨ret_bool HE.out.symm, Below.refl _ _⟩
              · exact absurd rfl e
            · have qc : (c != 0) = true := by simpa using hc
              have e : ¬ i + 1 = i := by omega
              have q2 : ((i : Int) == (i : Int) - 1) = false := by simp; omega
              have HE := Lib.hid (show risB l a b c = false by unfold risB; rw [if_neg hc, ← HEQ.out, ← HL.out]; simp)
              clear hc
              go_wp2
              go_ret
              exact ⟨ret_bool HE.out.symm, Below.refl _ _⟩
    · obtain rfl : j = n := by omega
      have hjz : ¬ (j : Int) < (j : Int) := by omega
      have HJ := Lib.hid (show j = ri1 l a by have h1 := HR.out; have h2 := HL.out; rw [List.drop_of_length_le (by omega)] at h1; simpa [run1] using h1)
      clear HR
      go_wp2
      go_loop [9] (fun i => ∃ t : Nat, t ≤ j ∧ i = .int .i64 (t : Int) ∧ t + run1 b (l.drop t) = ri2 l a b) (fun i => j - (intOf i).toNat)
      case atStart => exact ⟨j, hj, rfl, by unfold ri2; rw [← HJ.out]⟩
      case round =>
        clear hjz
        obtain ⟨i, hi, rfl, hrun⟩ := hrel
        have HR2 := Lib.hid hrun
        clear hrun
        by_cases hil : i < j
        · have hiz : (i : Int) < (j : Int) := by omega
          have hil2 : i < l.length := by rw [← HL.out]; exact hil
          obtain ⟨bL, oL, eL, hbL, hcL⟩ := HI.out (by omega)
          have hcl := hcL i hil2
          have HRA2 := Lib.hid (run1_at b l i hil2)
          clear hcL
          by_cases g : l[i] = b
          · have HR3 := Lib.hid (show i + 1 + run1 b (l.drop (i + 1)) = ri2 l a b by have h1 := HR2.out; rw [HRA2.out, if_pos g] at h1; omega)
            have q5 : (b == b) = true := by simp
            rw [g] at hcl
            cases eL
            clear g HR2 HRA2
            go_wp2
            go_round
            case rel => exact ⟨i + 1, by omega, by go_num, HR3.out⟩
            case measure => simp [intOf]; omega
          · have HEQ := Lib.hid (show i = ri2 l a b by have h1 := HR2.out; rw [HRA2.out, if_neg g] at h1; omega)
            have q5 : (l[i] == b) = false := by simpa using g
            obtain ⟨ki, hki⟩ : ∃ ki, l[i] = ki := ⟨_, rfl⟩
            rw [hki] at hcl q5
            cases eL
            have HKI := Lib.hid hki
            clear g HR2 HRA2 hki
            have hi1 : i ≤ l.length := by rw [← HL.out]; exact hi
            by_cases hc : c = 0
            · subst hc
              by_cases e : i = j
              · subst e
                have HE := Lib.hid (show risB l a b 0 = true by unfold risB; rw [if_pos rfl]; exact decide_eq_true (by rw [← HEQ.out]; exact HL.out))
                go_wp2
                go_ret
                exact ⟨ret_bool HE.out.symm, Below.refl _ _⟩
              · have q2 : ((i : Int) == (j : Int)) = false := by simp; omega
                have HE := Lib.hid (show risB l a b 0 = false by unfold risB; rw [if_pos rfl]; exact decide_eq_false (by rw [← HEQ.out, ← HL.out]; exact e))
                go_wp2
                go_ret
                exact ⟨ret_bool HE.out.symm, Below.refl _ _⟩
            · have qc : (c != 0) = true := by simpa using hc
              by_cases e : i + 1 = j
              · have hil : i < l.length := by rw [← HL.out]; omega
                have q2 : ((i : Int) == (j : Int) - 1) = true := by simp; omega
                have hin : i < j := by omega
                have HGD := Lib.hid (show l.getD (ri2 l a b) 0 = ki by rw [← HEQ.out]; simp [List.getD, hil]; exact HKI.out)
                have HE1 := Lib.hid (show ri2 l a b + 1 = l.length by rw [← HEQ.out, ← HL.out]; exact e)
                by_cases g : ki = c
                · subst g
                  have HE := Lib.hid (show risB l a b ki = true by unfold risB; rw [if_neg hc, HGD.out]; simp [HE1.out])
                  clear hc
                  go_wp2
                  go_ret
                  exact ⟨ret_bool HE.out.symm, Below.refl _ _⟩
                · have q3 : (ki == c) = false := by simpa using g
                  have HE := Lib.hid (show risB l a b c = false by unfold risB; rw [if_neg hc, HGD.out]; simp [g])
                  clear hc g
                  go_wp2
                  go_ret
                  exact ⟨ret_bool HE.out.symm, Below.refl _ _⟩
              · have q2 : ((i : Int) == (j : Int) - 1) = false := by simp; omega
                have HE := Lib.hid (show risB l a b c = false by unfold risB; rw [if_neg hc, ← HEQ.out, ← HL.out]; simp [e])
                clear hc
                go_wp2
                go_ret
                exact ⟨ret_bool HE.out.symm, Below.refl _ _⟩
        · obtain rfl : i = j := by omega
          have hiz : ¬ (i : Int) < (i : Int) := by omega
          have HEQ := Lib.hid (show i = ri2 l a b by have h1 := HR2.out; have h2 := HL.out; rw [List.drop_of_length_le (by omega)] at h1; simpa [run1] using h1)
          clear HR2
          have hi1 : i ≤ l.length := by rw [← HL.out]; exact hi
          by_cases hc : c = 0
          · subst hc
            by_cases e : i = i
            · clear e
              have HE := Lib.hid (show risB l a b 0 = true by unfold risB; rw [if_pos rfl]; exact decide_eq_true (by rw [← HEQ.out]; exact HL.out))
              go_wp2
              go_ret
              exact ⟨ret_bool HE.out.symm, Below.refl _ _⟩
            · exact absurd rfl e
          · have qc : (c != 0) = true := by simpa using hc
            have e : ¬ i + 1 = i := by omega
            have q2 : ((i : Int) == (i : Int) - 1) = false := by simp; omega
            have HE := Lib.hid (show risB l a b c = false by unfold risB; rw [if_neg hc, ← HEQ.out, ← HL.out]; simp)
            clear hc
            go_wp2
            go_ret
            exact ⟨ret_bool HE.out.symm, Below.refl _ _⟩
end Go.Proofs.Ytcnmkmdedeiffaa
