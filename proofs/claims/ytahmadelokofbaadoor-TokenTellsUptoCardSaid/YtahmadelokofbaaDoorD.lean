/- PROVED here: the contract of Ident. No condition but those in each theorem's own head. -/
import Derived.Test.YtahmadelokofbaaDoorC
namespace Go.Proofs.YtahmadelokofbaaDoor
open Go Go.RowKit

theorem kept_l (s : ByteArray) (w : World) : Calls Tryd.prog 16 #[.string s] w fun e w' => e = .returned (.bool (keptB s.data.toList)) ∧ w = w' := by
  rw [← ByteArray.toList_eq]; exact kept_any s w
theorem sign_l (s : ByteArray) (w : World) : Calls Tryd.prog 38 #[.string s] w fun e w' => e = .returned (.bool (signB s.data.toList)) ∧ w = w' := by
  rw [← ByteArray.toList_eq]; exact sign_any s w
theorem take_snoc (s : ByteArray) (k : Nat) (h : k < s.size) : s.data.toList.take (k + 1) = s.data.toList.take k ++ [s[k]] := by
  rw [List.take_succ_eq_append_getElem (by simpa using h)]; rfl
/-- is it a name -/
def allW (l : List UInt8) : Bool := l.all wdB
def idB (l : List UInt8) : Bool := decide (1 ≤ l.length) && decide (l.length ≤ 20) && !(dgB (l.headD 0)) && !(keptB l) && allW l
theorem allW_snoc {l l' : List UInt8} {c : UInt8} (e : l' = l ++ [c]) (h : allW l = true) (hc : wdB c = true) : allW l' = true := by
  subst e; unfold allW at *; rw [List.all_append, h]; simp [hc]
theorem head_get (s : ByteArray) (h : 0 < s.size) : s.data.toList.headD 0 = s[0] := by
  obtain ⟨⟨l⟩⟩ := s
  cases l with
  | nil => simp [ByteArray.size] at h
  | cons a l => rfl
theorem id_false_len {l : List UInt8} (h : l.length = 0 ∨ 20 < l.length) : idB l = false := by
  unfold idB
  rcases h with h | h
  · rw [decide_eq_false (by omega : ¬ 1 ≤ l.length)]; rfl
  · rw [decide_eq_false (by omega : ¬ l.length ≤ 20)]; simp
set_option maxHeartbeats 1000000 in
theorem ident_any (s : ByteArray) (w : World) (hmax : s.size ≤ 281474976710656) : Calls Tryd.prog 18 #[.string s] w fun e w' => e = .returned (.bool (idB s.data.toList)) ∧ w = w' := by
  have hlen : s.data.toList.length = s.size := by simp
  by_cases h0 : s.size = 0
  · rw [id_false_len (.inl (by omega))]
    have q0 : ((s.size : Int) == 0) = true := beq_iff_eq.2 (by omega)
    clear h0 hlen
    go_enter Tryd.func18, Tryd.ntmps18
    go_wp2
    go_ret
    simp
  · have q0 : ((s.size : Int) == 0) = false := beq_eq_false_iff_ne.2 (by omega)
    by_cases h1 : 20 < s.size
    · rw [id_false_len (.inr (by omega))]
      have q1 : (20 : Int) < (s.size : Int) := by omega
      clear h0 hlen
      go_enter Tryd.func18, Tryd.ntmps18
      go_wp2
      go_ret
      simp
    · have hp : 0 < s.size := by omega
      have hh := head_get s hp
      have q1 : ¬ (20 : Int) < (s.size : Int) := by omega
      cases hd : dgB s[0]
      · cases hk : keptB s.data.toList
        · have hE : idB s.data.toList = allW s.data.toList := by
            unfold idB
            rw [hh, hd, hk, decide_eq_true (by omega), decide_eq_true (by omega)]; simp
          rw [hE]
          clear hE hh
          have HL := Lib.hid hlen
          clear h0 hlen
          go_enter Tryd.func18, Tryd.ntmps18
          go_wp2_with (first | (go_at_call 33; refine (digit_any _ _).mono ?_; rintro e w' ⟨rfl, rfl⟩) | (go_at_call 16; refine (kept_l _ _).mono ?_; rintro e w' ⟨rfl, rfl⟩))
          go_loop [23] (fun i => ∃ k : Nat, k ≤ s.size ∧ i = .int .i64 k ∧ allW (s.data.toList.take k) = true) (fun i => s.size - (intOf i).toNat)
          case atStart => exact ⟨0, Nat.zero_le _, rfl, rfl⟩
          case round =>
            obtain ⟨k, hk, rfl, ha⟩ := hrel
            have HA := Lib.hid ha
            clear ha
            by_cases hlt : k < s.size
            · have hts := Lib.hid (take_snoc s k hlt)
              have hlz : (k : Int) < (s.size : Int) := by omega
              cases hw : wdB s[k]
              · go_wp2_with (go_at_call 34; refine (word_any _ _).mono ?_; rintro e w' ⟨rfl, rfl⟩)
                go_ret
                refine ⟨ret_bool ?_, rfl⟩
                symm
                unfold allW
                rw [List.all_eq_false]
                exact ⟨s[k], by simp [ByteArray.getElem_eq_getElem_data], by simp [hw]⟩
              · go_wp2_with (go_at_call 34; refine (word_any _ _).mono ?_; rintro e w' ⟨rfl, rfl⟩)
                go_round
                case rel => exact ⟨k + 1, by omega, by go_num, allW_snoc hts.out HA.out hw⟩
                case measure => simp [intOf]; omega
            · have hlz : ¬ (k : Int) < (s.size : Int) := by omega
              go_wp2
              go_ret
              refine ⟨ret_bool ?_, rfl⟩
              have := HA.out
              rw [List.take_of_length_le (by rw [HL.out]; omega)] at this
              exact this.symm
        · have hE : idB s.data.toList = false := by
            unfold idB; rw [hk]; simp
          rw [hE]; clear hE hh h0 hlen
          go_enter Tryd.func18, Tryd.ntmps18
          go_wp2_with (first | (go_at_call 33; refine (digit_any _ _).mono ?_; rintro e w' ⟨rfl, rfl⟩) | (go_at_call 16; refine (kept_l _ _).mono ?_; rintro e w' ⟨rfl, rfl⟩))
          go_ret
          simp
      · have hE : idB s.data.toList = false := by
          unfold idB; rw [hh, hd]; simp
        rw [hE]; clear hE hh h0 hlen
        go_enter Tryd.func18, Tryd.ntmps18
        go_wp2_with (first | (go_at_call 33; refine (digit_any _ _).mono ?_; rintro e w' ⟨rfl, rfl⟩) | (go_at_call 16; refine (kept_l _ _).mono ?_; rintro e w' ⟨rfl, rfl⟩))
        go_ret
        simp
end Go.Proofs.YtahmadelokofbaaDoor
