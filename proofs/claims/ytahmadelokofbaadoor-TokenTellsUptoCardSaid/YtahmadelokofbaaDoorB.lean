/- PROVED here: contracts of isWordByte, and of the document's digit and part. No condition but those in each theorem's own head. -/
import Derived.Test.YtahmadelokofbaaDoorA
namespace Go.Proofs.YtahmadelokofbaaDoor
open Go Go.RowKit

theorem five (c : UInt8) : (97 ≤ (c.toNat : Int) ∧ (c.toNat : Int) ≤ 122) ∨ 122 < (c.toNat : Int) ∨ (65 ≤ (c.toNat : Int) ∧ (c.toNat : Int) ≤ 90) ∨ (c.toNat : Int) < 65 ∨ (90 < (c.toNat : Int) ∧ (c.toNat : Int) < 97) := by omega
theorem word_any (c : UInt8) (w : World) : Calls Tryd.prog 34 #[.int .u8 (c.toNat : Int)] w fun e w' => e = .returned (.bool (wdB c)) ∧ w = w' := by
  rcases five c with h | h | h | h | h
  · have hb : wdB c = true := by unfold wdB dgB; simp; omega
    rw [hb]; clear hb
    obtain ⟨h1, h2⟩ := h
    go_enter Tryd.func34, Tryd.ntmps34
    go_wp2
    go_ret
    simp
  · have hb : wdB c = false := by unfold wdB dgB; simp; omega
    have hd : dgB c = false := by unfold dgB; simp; omega
    have q : ((c.toNat : Int) == 95) = false := by simp; omega
    rw [hb]; clear hb
    have h1 : 97 ≤ (c.toNat : Int) := by omega
    have h2 : ¬ (c.toNat : Int) ≤ 122 := by omega
    have h3 : 65 ≤ (c.toNat : Int) := by omega
    have h4 : ¬ (c.toNat : Int) ≤ 90 := by omega
    go_enter Tryd.func34, Tryd.ntmps34
    go_wp2_with (go_at_call 33; refine (digit_any _ _).mono ?_; rintro e w' ⟨rfl, rfl⟩)
    go_ret
    simp
  · have hb : wdB c = true := by unfold wdB dgB; simp; omega
    rw [hb]; clear hb
    obtain ⟨h3, h4⟩ := h
    have h1 : ¬ 97 ≤ (c.toNat : Int) := by omega
    go_enter Tryd.func34, Tryd.ntmps34
    go_wp2
    go_ret
    simp
  · have hb : wdB c = dgB c := by rw [Bool.eq_iff_iff]; unfold wdB dgB; simp; omega
    rw [hb]; clear hb
    have h1 : ¬ 97 ≤ (c.toNat : Int) := by omega
    have h3 : ¬ 65 ≤ (c.toNat : Int) := by omega
    have q : ((c.toNat : Int) == 95) = false := by simp; omega
    cases hd : dgB c
    · go_enter Tryd.func34, Tryd.ntmps34
      go_wp2_with (go_at_call 33; refine (digit_any _ _).mono ?_; rintro e w' ⟨rfl, rfl⟩)
      go_ret
      simp
    · go_enter Tryd.func34, Tryd.ntmps34
      go_wp2_with (go_at_call 33; refine (digit_any _ _).mono ?_; rintro e w' ⟨rfl, rfl⟩)
      go_ret
      simp
  · have hb : wdB c = ((c.toNat : Int) == 95) := by rw [Bool.eq_iff_iff]; unfold wdB dgB; simp; omega
    have hd : dgB c = false := by unfold dgB; simp; omega
    rw [hb]; clear hb
    have h1 : ¬ 97 ≤ (c.toNat : Int) := by omega
    have h3 : 65 ≤ (c.toNat : Int) := by omega
    have h4 : ¬ (c.toNat : Int) ≤ 90 := by omega
    generalize hq : ((c.toNat : Int) == 95) = b at *
    go_enter Tryd.func34, Tryd.ntmps34
    go_wp2_with (go_at_call 33; refine (digit_any _ _).mono ?_; rintro e w' ⟨rfl, rfl⟩)
    go_ret
    simp
end Go.Proofs.YtahmadelokofbaaDoor
