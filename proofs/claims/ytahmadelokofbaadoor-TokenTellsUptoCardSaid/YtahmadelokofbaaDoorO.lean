/- PROVED here: the walk of TokenLines. No condition but those in each theorem's own head. -/
import Derived.Test.YtahmadelokofbaaDoorN
namespace Go.Proofs.YtahmadelokofbaaDoor
open Go Go.RowKit

theorem bgF_at (l : List UInt8) : ∀ k, 0 < bgF l k → (l.getD (bgF l k - 1) 0).toNat = 10
  | 0, h => by simp [bgF] at h
  | k + 1, h => by
    unfold bgF at h ⊢
    by_cases hc : (l.getD k 0).toNat = 10
    · rw [if_pos hc]; exact hc
    · rw [if_neg hc] at h ⊢; exact bgF_at l k h
theorem bgF_no (l : List UInt8) : ∀ k j, bgF l k ≤ j → j < k → (l.getD j 0).toNat ≠ 10
  | 0, j, _, h => by omega
  | k + 1, j, h1, h2 => by
    unfold bgF at h1
    by_cases hc : (l.getD k 0).toNat = 10
    · rw [if_pos hc] at h1; omega
    · rw [if_neg hc] at h1
      by_cases e : j = k
      · subst e; exact hc
      · exact bgF_no l k j h1 (by omega)
def TruePost (w : World) (e : Ending) (w' : World) : Prop := e = .returned (.bool true) ∧ Below w.heap.size w w'
set_option maxRecDepth 100000 in
set_option maxHeartbeats 2000000 in
theorem lines_any (s : ByteArray) (t : Int) (w : World) (hE : Errs w) : Calls Tryd.prog 8 #[.string s, .int .i64 t] w (TruePost w) := by
  have HE := Lib.hid hE
  clear hE
  by_cases h0 : 1000 < s.size
  · have hz : (1000 : Int) < (s.size : Int) := by omega
    go_enter Tryd.func8, Tryd.ntmps8
    go_wp2_with (go_at_call 10; refine (shown_any _ HE.out).mono ?_; rintro e w1 ⟨rfl, hb1⟩)
    go_ret
    exact ⟨rfl, hb1⟩
  · have hz : ¬ (1000 : Int) < (s.size : Int) := by omega
    obtain ⟨k, hk⟩ : ∃ k, k = clampN t s.size := ⟨_, rfl⟩
    have hkl : k ≤ s.size := by rw [hk]; exact clampN_le _ _
    obtain ⟨n, hn⟩ : ∃ n, n = nlC s.data.toList k := ⟨_, rfl⟩
    obtain ⟨b, hb⟩ : ∃ b, b = bgF s.data.toList k := ⟨_, rfl⟩
    have hbk : b ≤ k := by rw [hb]; exact bgF_le _ _
    have hnk : n ≤ k := by rw [hn]; exact nlC_le _ _
    have P1 := Lib.hid (show ∀ w, Calls Tryd.prog 14 #[.string s, .int .i64 t] w fun e w' => e = .returned (.tuple #[.int .i64 (1 + (n : Int)), .int .i64 ((k : Int) - (b : Int) + 1)]) ∧ w = w' from fun w => by
      rw [hn, hb, hk]; exact place_any s t w (by omega))
    have HK := Lib.hid (show max 0 (min t (s.size : Int)) = (k : Int) by rw [hk]; unfold clampN; omega)
    have HN := Lib.hid hn
    have HB := Lib.hid hb
    have HL := Lib.hid (show s.data.toList.length = s.size by simp)
    clear hk hn hb
    have hzd : decide ((1000 : Int) < (s.size : Int)) = false := by simpa using hz
    go_enter Tryd.func8, Tryd.ntmps8
    go_upto_region 6 with (first | (go_at_call 10; refine (shown_any _ HE.out).mono ?_; rintro e w1 ⟨rfl, hb1⟩) | (go_at_call 14; refine (P1.out _).mono ?_; rintro e w' ⟨rfl, rfl⟩))
    rw [HK.out]
    go_upto_region 7 with (fail)
    rw [show (k : Int) - ((k : Int) - (b : Int)) = (b : Int) by omega]
    have HG : Hid (∀ j (h : j < s.size), s.data.toList.getD j 0 = s[j]) := Lib.hid (fun j h => getD_get s j h)
    rcases Nat.eq_zero_or_pos b with hb0 | hb0
    · subst hb0
      have d1 : decide ((k : Int) + 1 < 1) = false := decide_eq_false (by omega)
      have d2 : decide (1 + (n : Int) < 1) = false := decide_eq_false (by omega)
      go_wp2
      go_loop [10, 11] (fun f i => ∃ j : Nat, j ≤ k ∧ i = .int .i64 (j : Int) ∧ f = .int .i64 (nlC s.data.toList j : Int)) (fun _ i => k - (intOf i).toNat)
      case atStart => exact ⟨0, Nat.zero_le _, rfl, rfl⟩
      case round =>
        obtain ⟨j, hj, rfl, rfl⟩ := hrel
        by_cases hlt : j < k
        · have hlz : (j : Int) < (k : Int) := by omega
          have hjs : j < s.size := by omega
          have hle := nlC_le s.data.toList j
          have HS := Lib.hid (nlC_succ (l := s.data.toList) (k := j) (by rw [HL.out]; exact hjs))
          by_cases hc : s[j].toNat = 10
          · have hjb : j < 0 := by
              apply Nat.lt_of_not_le
              intro hh
              exact bgF_no s.data.toList k j (by rw [← HB.out]; exact hh) hlt (by rw [HG.out j hjs]; exact hc)
            exact absurd hjb (Nat.not_lt_zero _)
          · have hq2 : ((s[j].toNat : Int) == 10) = false := beq_eq_false_iff_ne.2 (by omega)
            have HV := Lib.hid (show nlC s.data.toList (j + 1) = nlC s.data.toList j by rw [HS.out, HG.out j hjs, if_neg hc]; rfl)
            clear hc
            go_wp2
            go_round
            case rel => exact ⟨j + 1, by omega, by go_num, by rw [HV.out]⟩
            case measure => simp [intOf]; omega
        · have hlz : ¬ (j : Int) < (k : Int) := by omega
          obtain rfl : j = k := by omega
          have hle := nlC_le s.data.toList j
          go_wp2
          go_ret
          exact ⟨ret_bool (beq_iff_eq.2 (by rw [HN.out]; omega)), hb1⟩
    · obtain ⟨c, rfl⟩ : ∃ c, b = c + 1 := ⟨b - 1, by omega⟩
      have hcs : c < s.size := by omega
      have d1 : decide ((k : Int) - ((c : Int) + 1) + 1 < 1) = false := decide_eq_false (by omega)
      have d2 : decide (1 + (n : Int) < 1) = false := decide_eq_false (by omega)
      have d3 : decide ((c : Int) + 1 < 0) = false := decide_eq_false (by omega)
      have hq : ((s[c].toNat : Int) != 10) = false := by
        have h1 := bgF_at s.data.toList k (by rw [← HB.out]; omega)
        rw [← HB.out, Nat.add_sub_cancel, HG.out c hcs] at h1
        rw [h1]; rfl
      go_wp2
      go_loop [10, 11] (fun f i => ∃ j : Nat, j ≤ k ∧ i = .int .i64 (j : Int) ∧ f = .int .i64 (nlC s.data.toList j : Int)) (fun _ i => k - (intOf i).toNat)
      case atStart => exact ⟨0, Nat.zero_le _, rfl, rfl⟩
      case round =>
        obtain ⟨j, hj, rfl, rfl⟩ := hrel
        by_cases hlt : j < k
        · have hlz : (j : Int) < (k : Int) := by omega
          have hjs : j < s.size := by omega
          have hle := nlC_le s.data.toList j
          have HS := Lib.hid (nlC_succ (l := s.data.toList) (k := j) (by rw [HL.out]; exact hjs))
          by_cases hc : s[j].toNat = 10
          · have hjb : j < c + 1 := by
              apply Nat.lt_of_not_le
              intro hh
              exact bgF_no s.data.toList k j (by rw [← HB.out]; exact hh) hlt (by rw [HG.out j hjs]; exact hc)
            have hge : ¬ ((c : Int) + 1) ≤ (j : Int) := by omega
            have hq2 : ((s[j].toNat : Int) == 10) = true := beq_iff_eq.2 (by omega)
            have HV := Lib.hid (show nlC s.data.toList (j + 1) = nlC s.data.toList j + 1 by rw [HS.out, HG.out j hjs, if_pos hc])
            clear hc
            go_wp2
            go_round
            case rel => exact ⟨j + 1, by omega, by go_num, by rw [HV.out]; go_num⟩
            case measure => simp [intOf]; omega
          · have hq2 : ((s[j].toNat : Int) == 10) = false := beq_eq_false_iff_ne.2 (by omega)
            have HV := Lib.hid (show nlC s.data.toList (j + 1) = nlC s.data.toList j by rw [HS.out, HG.out j hjs, if_neg hc]; rfl)
            clear hc
            go_wp2
            go_round
            case rel => exact ⟨j + 1, by omega, by go_num, by rw [HV.out]⟩
            case measure => simp [intOf]; omega
        · have hlz : ¬ (j : Int) < (k : Int) := by omega
          obtain rfl : j = k := by omega
          have hle := nlC_le s.data.toList j
          go_wp2
          go_ret
          exact ⟨ret_bool (beq_iff_eq.2 (by rw [HN.out]; omega)), hb1⟩
end Go.Proofs.YtahmadelokofbaaDoor
