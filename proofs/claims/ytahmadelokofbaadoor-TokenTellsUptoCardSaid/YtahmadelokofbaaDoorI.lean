/- PROVED here: the contract of pieceEnd at an operator, and at every byte. No condition but those in each theorem's own head. -/
import Derived.Test.YtahmadelokofbaaDoorH
namespace Go.Proofs.YtahmadelokofbaaDoor
open Go Go.RowKit

theorem signB_len {l : List UInt8} (h : signB l = true) : l.length = 1 ∨ l.length = 2 := by
  simp only [signB, Bool.or_eq_true, beq_iff_eq] at h
  rcases h with ((((((((((((((((((((((h | h) | h) | h) | h) | h) | h) | h) | h) | h) | h) | h) | h) | h) | h) | h) | h) | h) | h) | h) | h) | h) | h) | h <;> subst h <;> simp
def SgRel (l : List UInt8) (p k : Nat) : Prop := k = p + 1 ∨ (k = p + 2 ∧ signB ((l.drop p).take 2) = true ∧ p + 1 < l.length)
theorem pe_sg {l : List UInt8} {p : Nat} (h1 : spB (l.getD p 0) = false) (h2 : cmB (l.getD p 0) = false) (h3 : wdB (l.getD p 0) = false) : peF l p = p + 1 + (if signB ((l.drop p).take 2) = true ∧ p + 1 < l.length then 1 else 0) := by
  unfold peF; simp only [h1, h2, h3, Bool.false_eq_true, if_false]
theorem sg_end {l : List UInt8} {p k : Nat} (hr : SgRel l p k) (hE : peF l p = p + 1 + (if signB ((l.drop p).take 2) = true ∧ p + 1 < l.length then 1 else 0)) (he : k < l.length → signB ((l.drop p).take (k + 1 - p)) = false) : k = peF l p := by
  rw [hE]
  rcases hr with rfl | ⟨rfl, h, h'⟩
  · by_cases hl : p + 1 < l.length
    · have := he hl
      rw [show p + 1 + 1 - p = 2 by omega] at this
      rw [if_neg (by rw [this]; simp)]
    · rw [if_neg (fun h => hl h.2)]
  · rw [if_pos ⟨h, h'⟩]
theorem sg_next {l : List UInt8} {p k : Nat} (hr : SgRel l p k) (hk : k < l.length) (he : signB ((l.drop p).take (k + 1 - p)) = true) : SgRel l p (k + 1) := by
  rcases hr with rfl | ⟨rfl, h, h'⟩
  · rw [show p + 1 + 1 - p = 2 by omega] at he
    exact .inr ⟨rfl, he, hk⟩
  · exfalso
    have := signB_len he
    simp at this
    omega
set_option maxRecDepth 100000 in
set_option maxHeartbeats 1000000 in
theorem piece_sg (s : ByteArray) (p : Nat) (w : World) (hp : p < s.size) (hs : s.size ≤ 281474976710656) (h1 : spB s[p] = false) (h2 : cmB s[p] = false) (h3 : wdB s[p] = false) : Calls Tryd.prog 23 #[.string s, .int .i64 (p : Int)] w (PePost s.data.toList p w) := by
  have hv : cloV s[p] w.heap.size = .func (.func 51) #[] #[.pointer (some ⟨w.heap.size, 0, none⟩), .pointer (some ⟨w.heap.size + 1, 0, none⟩)] := by simp only [cloV, h1, h2, h3, Bool.false_eq_true, if_false]
  have hg := getD_get s p hp
  have hl : s.data.toList.length = s.size := by simp
  have HE := Lib.hid (pe_sg (l := s.data.toList) (p := p) (by rw [hg]; exact h1) (by rw [hg]; exact h2) (by rw [hg]; exact h3))
  have HL := Lib.hid hl
  have HV := Lib.hid hv
  clear hv h1 h2 h3 hg hl
  go_enter Tryd.func23, Tryd.ntmps23
  go_wp2_with (go_at_call 37; refine (together_any s p _ hp).mono ?_)
  rintro e w1 ⟨rfl, hw⟩
  rw [HV.out]
  have hc : w1.cell? ⟨w.heap.size, 0, none⟩ = some (.string s) := by rw [hw]; simp
  have hd : w1.cell? ⟨w.heap.size + 1, 0, none⟩ = some (.int .i64 (p : Int)) := by rw [hw]; simp
  have hb : Below w.heap.size w w1 := by rw [hw]; exact (heap1 w _).alloc (by simp) _
  have HC := Lib.hid hc
  have HD := Lib.hid hd
  clear hw hc hd
  go_wp2
  go_loop [6] (fun i => ∃ k : Nat, p + 1 ≤ k ∧ k ≤ s.size ∧ i = .int .i64 (k : Int) ∧ SgRel s.data.toList p k) (fun i => s.size - (intOf i).toNat)
  case atStart => exact ⟨p + 1, Nat.le_refl _, by omega, by go_num, .inl rfl⟩
  case round =>
    obtain ⟨k, hk1, hk2, rfl, ha⟩ := hrel
    by_cases hlt : k < s.size
    · have hlz : (k : Int) < (s.size : Int) := by omega
      cases hq : signB ((s.data.toList.drop p).take (k + 1 - p))
      · have HQ := Lib.hid hq
        go_wp2_with (go_at_call 51; refine (clo51 s _ p k _ (by omega) hlt hs HC.out HD.out).mono ?_; rintro e w' ⟨rfl, rfl⟩)
        go_ret
        exact ⟨ret_int (by rw [← sg_end ha HE.out (fun _ => HQ.out)]), hb⟩
      · have HQ := Lib.hid hq
        go_wp2_with (go_at_call 51; refine (clo51 s _ p k _ (by omega) hlt hs HC.out HD.out).mono ?_; rintro e w' ⟨rfl, rfl⟩)
        go_round
        case rel => exact ⟨k + 1, by omega, by omega, by go_num, sg_next ha (by rw [HL.out]; exact hlt) HQ.out⟩
        case measure => simp [intOf]; omega
    · have hlz : ¬ (k : Int) < (s.size : Int) := by omega
      go_wp2
      go_ret
      exact ⟨ret_int (by rw [← sg_end ha HE.out (fun h => absurd h (by rw [HL.out]; exact hlt))]), hb⟩
theorem piece_any (s : ByteArray) (p : Nat) (w : World) (hp : p < s.size) (hs : s.size ≤ 281474976710656) : Calls Tryd.prog 23 #[.string s, .int .i64 (p : Int)] w (PePost s.data.toList p w) := by
  cases h1 : spB s[p]
  · cases h2 : cmB s[p]
    · cases h3 : wdB s[p]
      · exact piece_sg s p w hp hs h1 h2 h3
      · exact piece_wd s p w hp hs h1 h2 h3
    · exact piece_cm s p w hp hs h1 h2
  · exact piece_sp s p w hp hs h1
theorem tw_le {q : UInt8 → Bool} (l : List UInt8) : (l.takeWhile q).length ≤ l.length := by
  exact (List.takeWhile_prefix q).length_le
theorem peF_bounds {l : List UInt8} {p : Nat} (hp : p < l.length) : p + 1 ≤ peF l p ∧ peF l p ≤ l.length := by
  refine ⟨by unfold peF; omega, ?_⟩
  unfold peF
  have a := tw_le (q := spB) (l.drop (p + 1))
  have b := tw_le (q := nlB) (l.drop (p + 1))
  have c := tw_le (q := wdB) (l.drop (p + 1))
  simp only [List.length_drop] at a b c
  split
  · omega
  · split
    · omega
    · split
      · omega
      · split <;> omega
end Go.Proofs.YtahmadelokofbaaDoor
