/- PROVED here: the contract of the document's skip. No condition but those in each theorem's own head. -/
import Derived.Test.YtahmadelokofbaaDoorRe
namespace Go.Proofs.YtahmadelokofbaaDoor
open Go Go.RowKit

def EqAt (l : List UInt8) (i j : Nat) : Prop := cutL i (l.drop i) = cutL j (l.drop j)
def SkPost (l : List UInt8) (i : Nat) (w : World) (e : Ending) (w' : World) : Prop :=
  ∃ j : Nat, e = .returned (.int .i64 (j : Int)) ∧ i ≤ j ∧ j ≤ l.length ∧ EqAt l i j ∧ (j < l.length → spB (l.getD j 0) = false ∧ cmB (l.getD j 0) = false) ∧ w = w'
theorem eq_sp {l : List UInt8} {i k : Nat} (h : EqAt l i k) (hk : k < l.length) (hs : spB (l.getD k 0) = true) : EqAt l i (k + 1) := by
  unfold EqAt at *
  rw [h, drop_at hk, cutL_sp hs]
theorem eq_cm {l : List UInt8} {i k m : Nat} (h : EqAt l i k) (hk : k < l.length) (hc : cmB (l.getD k 0) = true) (ha : AllIn nlB l k m) (h1 : k + 1 ≤ m) (h2 : m ≤ l.length) (hend : ∀ h : m < l.length, nlB l[m] = false) : EqAt l i m := by
  unfold EqAt at *
  have hsp : spB (l.getD k 0) = false := by unfold cmB at hc; unfold spB; simp at hc ⊢; omega
  have ha' : AllIn nlB l (k + 1) m := fun j hj a b => ha j hj (by omega) b
  have e := tw_len ha' h1 h2 hend
  rw [h, drop_at hk, cutL_cm hsp hc, e, ← drop_tw, e, List.drop_drop, show k + 1 + (m - (k + 1)) = m by omega]
set_option maxRecDepth 100000 in
set_option maxHeartbeats 1500000 in
theorem rskip_any (s : ByteArray) (i : Nat) (w : World) (hi : i ≤ s.size) (hmax : s.size ≤ 281474976710656) : Calls Tryd.prog 27 #[.string s, .int .i64 (i : Int)] w (SkPost s.data.toList i w) := by
  have HL := Lib.hid (show s.data.toList.length = s.size by simp)
  go_enter Tryd.func27, Tryd.ntmps27
  go_wp2_with (fail)
  go_loop [1] (fun v => ∃ k : Nat, i ≤ k ∧ k ≤ s.size ∧ v = .int .i64 (k : Int) ∧ EqAt s.data.toList i k) (fun v => s.size - (intOf v).toNat)
  case atStart => exact ⟨i, Nat.le_refl _, hi, rfl, rfl⟩
  case round =>
    obtain ⟨k, hk1, hk2, rfl, hE⟩ := hrel
    have HE := Lib.hid hE
    clear hE
    by_cases hlt : k < s.size
    · have hlz : (k : Int) < (s.size : Int) := by omega
      have HG := Lib.hid (getD_get s k hlt)
      have HKL := Lib.hid (show k < s.data.toList.length by rw [HL.out]; exact hlt)
      by_cases h35 : s[k].toNat = 35
      · have q35 : ((s[k].toNat : Int) == 35) = true := beq_iff_eq.2 (by omega)
        have HC := Lib.hid (show cmB (s.data.toList.getD k 0) = true by rw [HG.out]; unfold cmB; exact beq_iff_eq.2 h35)
        have H35 := Lib.hid h35
        clear h35
        go_wp2_with (fail)
        go_loop [1] (fun v => ∃ m : Nat, k ≤ m ∧ m ≤ s.size ∧ v = .int .i64 (m : Int) ∧ AllIn nlB s.data.toList k m) (fun v => s.size - (intOf v).toNat)
        case atStart => exact ⟨k, Nat.le_refl _, hk2, rfl, AllIn.nil _ _ _⟩
        case round =>
          obtain ⟨m, hm1, hm2, rfl, ha⟩ := hrel
          have HA := Lib.hid ha
          clear ha
          by_cases hlm : m < s.size
          · have hlmz : (m : Int) < (s.size : Int) := by omega
            by_cases h10 : s[m].toNat = 10
            · have q10 : ((s[m].toNat : Int) != 10) = false := by rw [h10]; rfl
              have hne : m ≠ k := fun e => by subst e; have := H35.out; omega
              have HN := Lib.hid (eq_cm HE.out HKL.out HC.out HA.out (by omega) (by rw [HL.out]; exact hm2) (fun h => by unfold nlB; simp [ByteArray.getElem_eq_getElem_data] at h10 ⊢; exact h10))
              clear h10
              go_wp2
              go_round
              case rel => exact ⟨m, by omega, hm2, rfl, HN.out⟩
              case measure => simp [intOf]; omega
            · have q10 : ((s[m].toNat : Int) != 10) = true := by rw [bne_iff_ne]; omega
              have HN := Lib.hid (HA.out.snoc (fun _ => by unfold nlB; simp [ByteArray.getElem_eq_getElem_data] at h10 ⊢; exact h10))
              clear h10
              go_wp2
              go_round
              case rel => exact ⟨m + 1, by omega, by omega, by go_num, HN.out⟩
              case measure => simp [intOf]; omega
          · have hlmz : ¬ (m : Int) < (s.size : Int) := by omega
            have HN := Lib.hid (eq_cm HE.out HKL.out HC.out HA.out (by omega) (by rw [HL.out]; exact hm2) (fun h => absurd h (by rw [HL.out]; exact hlm)))
            go_wp2
            go_round
            case rel => exact ⟨m, by omega, hm2, rfl, HN.out⟩
            case measure => simp [intOf]; omega
      · have q35 : ((s[k].toNat : Int) == 35) = false := beq_eq_false_iff_ne.2 (by omega)
        have HNC := Lib.hid (show cmB (s.data.toList.getD k 0) = false by rw [HG.out]; unfold cmB; exact beq_eq_false_iff_ne.2 h35)
        cases hsp : spB s[k]
        · have p32 : s[k].toNat ≠ 32 ∧ s[k].toNat ≠ 9 ∧ s[k].toNat ≠ 10 := by unfold spB at hsp; simp at hsp; omega
          have q1 : ((s[k].toNat : Int) != 32) = true := by rw [bne_iff_ne]; omega
          have q2 : ((s[k].toNat : Int) != 9) = true := by rw [bne_iff_ne]; omega
          have q3 : ((s[k].toNat : Int) != 10) = true := by rw [bne_iff_ne]; omega
          have r1 : ¬ (s[k].toNat : Int) = 32 := by omega
          have r2 : ¬ (s[k].toNat : Int) = 9 := by omega
          have r3 : ¬ (s[k].toNat : Int) = 10 := by omega
          have HSP := Lib.hid (show spB (s.data.toList.getD k 0) = false by rw [HG.out]; exact hsp)
          clear p32 h35 hsp
          go_wp2
          · go_ret
            exact ⟨k, rfl, hk1, by rw [HL.out]; exact hk2, HE.out, fun _ => ⟨HSP.out, HNC.out⟩, rfl⟩
          · exfalso
            rcases (‹(((s[k].toNat : Int) != 32) = false ∨ ((s[k].toNat : Int) != 9) = false) ∨ ((s[k].toNat : Int) != 10) = false›) with (hh | hh) | hh
            · rw [q1] at hh; cases hh
            · rw [q2] at hh; cases hh
            · rw [q3] at hh; cases hh
        · have HN := Lib.hid (eq_sp HE.out HKL.out (by rw [HG.out]; exact hsp))
          have p32 : s[k].toNat = 32 ∨ s[k].toNat = 9 ∨ s[k].toNat = 10 := by unfold spB at hsp; simp at hsp; omega
          rcases p32 with p | p | p
          · have r1 : (s[k].toNat : Int) = 32 := by omega
            clear p h35 hsp q35
            go_wp2
            go_round
            case rel => exact ⟨k + 1, by omega, by omega, by go_num, HN.out⟩
            case measure => simp [intOf]; omega
          · have r1 : (s[k].toNat : Int) = 9 := by omega
            clear p h35 hsp q35
            go_wp2
            go_round
            case rel => exact ⟨k + 1, by omega, by omega, by go_num, HN.out⟩
            case measure => simp [intOf]; omega
          · have r1 : (s[k].toNat : Int) = 10 := by omega
            clear p h35 hsp q35
            go_wp2
            · exfalso
              have hh := (‹(((s[k].toNat : Int) != 32) = true ∧ ((s[k].toNat : Int) != 9) = true) ∧ ((s[k].toNat : Int) != 10) = true›).2
              rw [r1] at hh
              simp at hh
            · go_round
              case rel => exact ⟨k + 1, by omega, by omega, by go_num, HN.out⟩
              case measure => simp [intOf]; omega
    · have hlz : ¬ (k : Int) < (s.size : Int) := by omega
      go_wp2
      go_ret
      exact ⟨k, rfl, hk1, by rw [HL.out]; exact hk2, HE.out, fun h => absurd h (by rw [HL.out]; exact hlt), rfl⟩
end Go.Proofs.YtahmadelokofbaaDoor
