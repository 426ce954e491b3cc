/- PROVED here: the contract of the document's Number. No condition but those in each theorem's own head. -/
import Derived.Test.YtahmadelokofbaaDoorRb
import Derived.Laws.Cover1
namespace Go.Proofs.YtahmadelokofbaaDoor
open Go Go.RowKit

theorem valA_app (acc : Nat) (a b : List UInt8) : valA acc (a ++ b) = valA (valA acc a) b := by unfold valA; rw [List.foldl_append]
theorem valA_mono (acc : Nat) (l : List UInt8) : acc ≤ valA acc l := by
  have h := valA_ge l acc
  have h1 : 0 < 10 ^ l.length := Nat.pos_of_ne_zero (by simp)
  exact Nat.le_trans (Nat.le_mul_of_pos_right _ h1) h
theorem valA_take (l : List UInt8) (k : Nat) : valA 0 (l.take k) ≤ valA 0 l := by
  conv => rhs; rw [← List.take_append_drop k l, valA_app]
  exact valA_mono _ _
theorem pow_mono {a b : Nat} (h : a ≤ b) : 10 ^ a ≤ 10 ^ b := Nat.pow_le_pow_right (by omega) h
theorem val_small {l : List UInt8} (hd : allD l = true) (h : l.length ≤ 18) : valA 0 l ≤ 9223372036854775807 := by
  have h1 := valA_lt l 0 hd
  have h2 := pow_mono h
  have h3 : (10 : Nat) ^ 18 = 1000000000000000000 := by decide
  rw [h3] at h2
  rw [Nat.zero_add, Nat.one_mul] at h1
  exact Nat.le_of_lt (Nat.lt_of_lt_of_le (Nat.lt_of_lt_of_le h1 h2) (by decide))
theorem val_big {l : List UInt8} (hd : allD l = true) (h : 20 ≤ l.length) (h0 : (l.headD 0).toNat ≠ 48) : 9223372036854775807 < valA 0 l := by
  cases l with
  | nil => simp at h
  | cons c r =>
    rw [allD_cons, Bool.and_eq_true] at hd
    have hc := dg_le hd.1
    have h1 : (c :: r).headD 0 = c := rfl
    rw [h1] at h0
    rw [valA_cons]
    have h2 := valA_ge r (0 * 10 + (c.toNat - 48))
    have h3 : 10 ^ 19 ≤ 10 ^ r.length := pow_mono (by simpa using h)
    have h4 : (10 : Nat) ^ 19 = 10000000000000000000 := by decide
    rw [h4] at h3
    have h5 : 10 ^ r.length ≤ (0 * 10 + (c.toNat - 48)) * 10 ^ r.length := Nat.le_mul_of_pos_left _ (by omega)
    exact Nat.lt_of_lt_of_le (by decide) (Nat.le_trans h3 (Nat.le_trans h5 h2))
theorem val_19 {l : List UInt8} (hd : allD l = true) (h : l.length = 19) : (Op.bytesLess l greatL || l == greatL) = true ↔ valA 0 l ≤ 9223372036854775807 := by
  rw [less_val l greatL 0 h hd (by decide), great_val]
def RnPost (l : List UInt8) (w : World) (e : Ending) (w' : World) : Prop := e = .returned (.tuple #[.int .i64 (((rnum l).getD 0 : Nat) : Int), .bool (rnum l).isSome]) ∧ w = w'
theorem rn_none {l : List UInt8} {w : World} (h : rnum l = none) : RnPost l w (.returned (.tuple #[.int .i64 0, .bool false])) w := by unfold RnPost; rw [h]; exact ⟨rfl, rfl⟩
theorem rn_some {l : List UInt8} {w : World} {v : Int} (h : rnum l = some (valA 0 l)) (hv : v = (valA 0 l : Int)) : RnPost l w (.returned (.tuple #[.int .i64 v, .bool true])) w := by
  unfold RnPost; rw [h, hv]; exact ⟨rfl, rfl⟩
theorem allD_snoc {l l' : List UInt8} {c : UInt8} (e : l' = l ++ [c]) (h : allD l = true) (hc : dgB c = true) : allD l' = true := by
  subst e; unfold allD at *; rw [List.all_append, h]; simp [hc]
theorem val_snoc {l l' : List UInt8} {c : UInt8} (e : l' = l ++ [c]) (hc : dgB c = true) : (valA 0 l' : Int) = 10 * (valA 0 l : Int) + ((c.toNat : Int) - 48) := by
  have := dg_le hc
  rw [e, valA_app, valA_cons]
  show ((valA 0 l * 10 + (c.toNat - 48) : Nat) : Int) = _
  omega
set_option maxRecDepth 100000 in
set_option maxHeartbeats 1500000 in
theorem rnumber_any (s : ByteArray) (w : World) (hmax : s.size ≤ 281474976710656) : Calls Tryd.prog 40 #[.string s] w (RnPost s.data.toList w) := by
  have HL := Lib.hid (show s.data.toList.length = s.size by simp)
  go_enter Tryd.func40, Tryd.ntmps40
  go_wp2_with (fail)
  go_loop [5] (fun i => ∃ k : Nat, k ≤ s.size ∧ i = .int .i64 (k : Int) ∧ allD (s.data.toList.take k) = true) (fun i => s.size - (intOf i).toNat)
  case atStart => exact ⟨0, Nat.zero_le _, rfl, rfl⟩
  case round =>
    obtain ⟨k, hk, rfl, ha⟩ := hrel
    have HA := Lib.hid ha
    clear ha
    by_cases hlt : k < s.size
    · have hts := Lib.hid (take_snoc s k hlt)
      have hlz : (k : Int) < (s.size : Int) := by omega
      cases hw : dgB s[k]
      · have HF := Lib.hid (show rnum s.data.toList = none from if_neg (fun h => by
          have h1 := h.1
          unfold allD at h1
          rw [List.all_eq_true] at h1
          have := h1 s[k] (by simp [ByteArray.getElem_eq_getElem_data])
          rw [hw] at this; cases this))
        go_wp2_with (go_at_call 35; refine (rdigit_any _ _).mono ?_; rintro e w' ⟨rfl, rfl⟩)
        go_ret2
        exact rn_none HF.out
      · go_wp2_with (go_at_call 35; refine (rdigit_any _ _).mono ?_; rintro e w' ⟨rfl, rfl⟩)
        go_round
        case rel => exact ⟨k + 1, by omega, by go_num, allD_snoc hts.out HA.out hw⟩
        case measure => simp [intOf]; omega
    · have hlz : ¬ (k : Int) < (s.size : Int) := by omega
      have HD := Lib.hid (show allD s.data.toList = true by
        have := HA.out
        rwa [List.take_of_length_le (by rw [HL.out]; omega)] at this)
      clear HA
      by_cases e0 : s.size = 0
      · have hq : s.toList.isEmpty = true := by
          rw [ByteArray.toList_eq, List.isEmpty_iff]; exact List.length_eq_zero_iff.1 (by rw [HL.out]; exact e0)
        have HF := Lib.hid (show rnum s.data.toList = none from if_neg (fun h => h.2.1 (List.length_eq_zero_iff.1 (by rw [HL.out]; exact e0))))
        clear e0
        go_wp2
        go_ret2
        exact rn_none HF.out
      · have HNE := Lib.hid (show s.data.toList ≠ [] from fun h => e0 (by rw [← HL.out, h]; rfl))
        have hq : s.toList.isEmpty = false := by
          rw [ByteArray.toList_eq]
          cases h : s.data.toList with
          | nil => exact absurd h HNE.out
          | cons _ _ => rfl
        have hp : 0 < s.size := by omega
        have HH := Lib.hid (head_get s hp)
        by_cases e1 : 1 < s.size
        · have z1 : (1 : Int) < (s.size : Int) := by omega
          have y1 : decide ((1 : Int) < (s.size : Int)) = true := decide_eq_true z1
          by_cases e2 : s[0].toNat = 48
          · have q48 : ((s[0].toNat : Int) == 48) = true := beq_iff_eq.2 (by omega)
            have HF := Lib.hid (show rnum s.data.toList = none from if_neg (fun h => h.2.2.1 ⟨by rw [HL.out]; exact e1, by rw [HH.out]; exact e2⟩))
            clear e2
            go_wp2
            go_ret2
            exact rn_none HF.out
          · have q48 : ((s[0].toNat : Int) == 48) = false := beq_eq_false_iff_ne.2 (by omega)
            have HZ := Lib.hid (show ¬ (1 < s.data.toList.length ∧ (s.data.toList.headD 0).toNat = 48) from fun h => e2 (by rw [← HH.out]; exact h.2))
            by_cases e3 : 19 < s.size
            · have z3 : (19 : Int) < (s.size : Int) := by omega
              have HF := Lib.hid (show rnum s.data.toList = none from if_neg (fun h => absurd h.2.2.2 (Nat.not_le.2 (val_big HD.out (by rw [HL.out]; omega) (by rw [HH.out]; exact e2)))))
              clear e2
              go_wp2
              go_ret2
              exact rn_none HF.out
            · have z3 : ¬ (19 : Int) < (s.size : Int) := by omega
              have y3 : decide ((19 : Int) < (s.size : Int)) = false := decide_eq_false z3
              by_cases e4 : s.size = 19
              · have q19 : ((s.size : Int) == 19) = true := beq_iff_eq.2 (by omega)
                cases hcmp : (Op.bytesLess s.toList [57, 50, 50, 51, 51, 55, 50, 48, 51, 54, 56, 53, 52, 55, 55, 53, 56, 48, 55] || s.toList == [57, 50, 50, 51, 51, 55, 50, 48, 51, 54, 56, 53, 52, 55, 55, 53, 56, 48, 55])
                · have HC := Lib.hid (show ¬ valA 0 s.data.toList ≤ 9223372036854775807 from fun h => by
                    have := (val_19 HD.out (by rw [HL.out]; exact e4)).2 h
                    rw [← ByteArray.toList_eq] at this
                    unfold greatL at this
                    rw [hcmp] at this; cases this)
                  have HF := Lib.hid (show rnum s.data.toList = none from if_neg (fun h => HC.out h.2.2.2))
                  clear e2 e4
                  go_wp2
                  go_ret2
                  exact rn_none HF.out
                · have HVAL := Lib.hid (show valA 0 s.data.toList ≤ 9223372036854775807 by
                    rw [← val_19 HD.out (by rw [HL.out]; exact e4), ← ByteArray.toList_eq]
                    unfold greatL
                    exact hcmp)
                  have HSOME := Lib.hid (show rnum s.data.toList = some (valA 0 s.data.toList) from if_pos ⟨HD.out, HNE.out, HZ.out, HVAL.out⟩)
                  clear e2 e4
                  go_wp2_with (fail)
                  go_loop [4, 6] (fun v i => ∃ j : Nat, j ≤ s.size ∧ i = .int .i64 (j : Int) ∧ v = .int .i64 (valA 0 (s.data.toList.take j) : Int)) (fun _ i => s.size - (intOf i).toNat)
                  case atStart => exact ⟨0, Nat.zero_le _, rfl, rfl⟩
                  case round =>
                    obtain ⟨j, hj, rfl, rfl⟩ := hrel
                    by_cases hlt2 : j < s.size
                    · have hlz2 : (j : Int) < (s.size : Int) := by omega
                      have hdg : dgB s[j] = true := by
                        have h1 := HD.out
                        unfold allD at h1
                        rw [List.all_eq_true] at h1
                        exact h1 s[j] (by simp [ByteArray.getElem_eq_getElem_data])
                      have hdl := dg_le hdg
                      have HV2 := Lib.hid (val_snoc (take_snoc s j hlt2) hdg)
                      have hm1 := valA_take s.data.toList j
                      have hm2 := valA_take s.data.toList (j + 1)
                      have hvv := HVAL.out
                      have hb1 : (valA 0 (s.data.toList.take j) : Int) * 10 + ((s[j].toNat : Int) - 48) ≤ 9223372036854775807 := by have := HV2.out; omega
                      have hb0 : (0 : Int) ≤ (valA 0 (s.data.toList.take j) : Int) := by omega
                      have d1 : (48 : Int) ≤ (s[j].toNat : Int) := by omega
                      have d2 : (s[j].toNat : Int) ≤ 57 := by omega
                      clear hm1 hm2 hvv hdl hdg
                      generalize hva : (valA 0 (s.data.toList.take j) : Int) = va at *
                      clear hva
                      go_wp2
                      go_round
                      case rel => exact ⟨j + 1, by omega, by go_num, by rw [HV2.out]⟩
                      case measure => simp [intOf]; omega
                    · have hlz2 : ¬ (j : Int) < (s.size : Int) := by omega
                      have ht : s.data.toList.take j = s.data.toList := List.take_of_length_le (by rw [HL.out]; omega)
                      rw [ht]
                      clear ht
                      go_wp2
                      go_ret2
                      exact rn_some HSOME.out rfl
              · have q19 : ((s.size : Int) == 19) = false := beq_eq_false_iff_ne.2 (by omega)
                have HVAL := Lib.hid (show valA 0 s.data.toList ≤ 9223372036854775807 from val_small HD.out (by rw [HL.out]; omega))
                have HSOME := Lib.hid (show rnum s.data.toList = some (valA 0 s.data.toList) from if_pos ⟨HD.out, HNE.out, HZ.out, HVAL.out⟩)
                clear e2 e4
                go_wp2_with (fail)
                go_loop [4, 6] (fun v i => ∃ j : Nat, j ≤ s.size ∧ i = .int .i64 (j : Int) ∧ v = .int .i64 (valA 0 (s.data.toList.take j) : Int)) (fun _ i => s.size - (intOf i).toNat)
                case atStart => exact ⟨0, Nat.zero_le _, rfl, rfl⟩
                case round =>
                  obtain ⟨j, hj, rfl, rfl⟩ := hrel
                  by_cases hlt2 : j < s.size
                  · have hlz2 : (j : Int) < (s.size : Int) := by omega
                    have hdg : dgB s[j] = true := by
                      have h1 := HD.out
                      unfold allD at h1
                      rw [List.all_eq_true] at h1
                      exact h1 s[j] (by simp [ByteArray.getElem_eq_getElem_data])
                    have hdl := dg_le hdg
                    have HV2 := Lib.hid (val_snoc (take_snoc s j hlt2) hdg)
                    have hm1 := valA_take s.data.toList j
                    have hm2 := valA_take s.data.toList (j + 1)
                    have hvv := HVAL.out
                    have hb1 : (valA 0 (s.data.toList.take j) : Int) * 10 + ((s[j].toNat : Int) - 48) ≤ 9223372036854775807 := by have := HV2.out; omega
                    have hb0 : (0 : Int) ≤ (valA 0 (s.data.toList.take j) : Int) := by omega
                    have d1 : (48 : Int) ≤ (s[j].toNat : Int) := by omega
                    have d2 : (s[j].toNat : Int) ≤ 57 := by omega
                    clear hm1 hm2 hvv hdl hdg
                    generalize hva : (valA 0 (s.data.toList.take j) : Int) = va at *
                    clear hva
                    go_wp2
                    go_round
                    case rel => exact ⟨j + 1, by omega, by go_num, by rw [HV2.out]⟩
                    case measure => simp [intOf]; omega
                  · have hlz2 : ¬ (j : Int) < (s.size : Int) := by omega
                    have ht : s.data.toList.take j = s.data.toList := List.take_of_length_le (by rw [HL.out]; omega)
                    rw [ht]
                    clear ht
                    go_wp2
                    go_ret2
                    exact rn_some HSOME.out rfl
        · have z1 : ¬ (1 : Int) < (s.size : Int) := by omega
          have y1 : decide ((1 : Int) < (s.size : Int)) = false := decide_eq_false z1
          have z3 : ¬ (19 : Int) < (s.size : Int) := by omega
          have y3 : decide ((19 : Int) < (s.size : Int)) = false := decide_eq_false z3
          have q19 : ((s.size : Int) == 19) = false := beq_eq_false_iff_ne.2 (by omega)
          have HVAL := Lib.hid (show valA 0 s.data.toList ≤ 9223372036854775807 from val_small HD.out (by rw [HL.out]; omega))
          have HSOME := Lib.hid (show rnum s.data.toList = some (valA 0 s.data.toList) from if_pos ⟨HD.out, HNE.out, fun h => e1 (by rw [← HL.out]; exact h.1), HVAL.out⟩)
          go_wp2_with (fail)
          go_loop [4, 6] (fun v i => ∃ j : Nat, j ≤ s.size ∧ i = .int .i64 (j : Int) ∧ v = .int .i64 (valA 0 (s.data.toList.take j) : Int)) (fun _ i => s.size - (intOf i).toNat)
          case atStart => exact ⟨0, Nat.zero_le _, rfl, rfl⟩
          case round =>
            obtain ⟨j, hj, rfl, rfl⟩ := hrel
            by_cases hlt2 : j < s.size
            · have hlz2 : (j : Int) < (s.size : Int) := by omega
              have hdg : dgB s[j] = true := by
                have h1 := HD.out
                unfold allD at h1
                rw [List.all_eq_true] at h1
                exact h1 s[j] (by simp [ByteArray.getElem_eq_getElem_data])
              have hdl := dg_le hdg
              have HV2 := Lib.hid (val_snoc (take_snoc s j hlt2) hdg)
              have hm1 := valA_take s.data.toList j
              have hm2 := valA_take s.data.toList (j + 1)
              have hvv := HVAL.out
              have hb1 : (valA 0 (s.data.toList.take j) : Int) * 10 + ((s[j].toNat : Int) - 48) ≤ 9223372036854775807 := by have := HV2.out; omega
              have hb0 : (0 : Int) ≤ (valA 0 (s.data.toList.take j) : Int) := by omega
              have d1 : (48 : Int) ≤ (s[j].toNat : Int) := by omega
              have d2 : (s[j].toNat : Int) ≤ 57 := by omega
              clear hm1 hm2 hvv hdl hdg
              generalize hva : (valA 0 (s.data.toList.take j) : Int) = va at *
              clear hva
              go_wp2
              go_round
              case rel => exact ⟨j + 1, by omega, by go_num, by rw [HV2.out]⟩
              case measure => simp [intOf]; omega
            · have hlz2 : ¬ (j : Int) < (s.size : Int) := by omega
              have ht : s.data.toList.take j = s.data.toList := List.take_of_length_le (by rw [HL.out]; omega)
              rw [ht]
              clear ht
              go_wp2
              go_ret2
              exact rn_some HSOME.out rfl
end Go.Proofs.YtahmadelokofbaaDoor
