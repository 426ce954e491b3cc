/- PROVED here: the contract of the document's Sound. No condition but those in each theorem's own head. -/
import Derived.Test.YtcnmkmdedeiffaaTb
namespace Go.Proofs.Ytcnmkmdedeiffaa
open Go Go.RowKit

set_option maxRecDepth 100000 in
set_option maxHeartbeats 1500000 in
theorem rsound_any (A : Option Addr) (c n : Nat) (l : List Nd) (r : Int) (w : World) (hN : Nds w A l) (hn : n = l.length) (hk : ∀ x ∈ l, x.ks.length ≤ 4000) : Calls Try.prog 16 #[.agg #[.slice A n c, .int .i64 r]] w (BPost (sndB l r) w) := by
  have hb : Below w.heap.size w (w.alloc (.cells #[.slice A n c, .int .i64 r] 30)) := heap1 _ _
  obtain ⟨W, hW⟩ : ∃ W, w.alloc (.cells #[.slice A n c, .int .i64 r] 30) = W := ⟨_, rfl⟩
  have hB : Bx W w.heap.size 30 [.slice A n c, .int .i64 r] := by rw [← hW]; exact Bx.new w 30 _
  rw [hW] at hb
  have HN := Lib.hid (hN.below hb)
  have HL := Lib.hid hn
  have HK := Lib.hid hk
  have d0 := hB.cell 0
  have d1 := hB.cell 1
  simp only [List.getElem?_cons_zero, List.getElem?_cons_succ] at d0 d1
  have no : ∀ (P : Prop), (Snd l r → P) → ¬ P → sndB l r = false := fun P h1 h2 => sndB_false fun h => h2 (h1 h)
  have HNO := Lib.hid no
  clear hN hn hk no hB
  obtain ⟨v, hv⟩ : ∃ v, v = sndB l r := ⟨_, rfl⟩
  rw [← hv]
  have HV := Lib.hid hv
  clear hv
  by_cases h1 : (n : Int) < 1
  · have q1 : decide ((n : Int) < 1) = true := decide_eq_true h1
    have HF := Lib.hid (show v = false by rw [HV.out]; exact HNO.out (1 ≤ l.length) (fun h => (snd_iff.1 h).1.1) (by rw [← HL.out]; omega))
    go_enter Try.func16, Try.ntmps16
    go_wp2
    go_ret
    exact ⟨ret_bool HF.out.symm, hb⟩
  · have q1 : decide ((n : Int) < 1) = false := decide_eq_false h1
    by_cases h2 : (4000 : Int) < (n : Int)
    · have q2 : decide ((4000 : Int) < (n : Int)) = true := decide_eq_true h2
      have HF := Lib.hid (show v = false by rw [HV.out]; exact HNO.out (l.length ≤ 4000) (fun h => (snd_iff.1 h).1.2.1) (by rw [← HL.out]; omega))
      go_enter Try.func16, Try.ntmps16
      go_wp2
      go_ret
      exact ⟨ret_bool HF.out.symm, hb⟩
    · have q2 : decide ((4000 : Int) < (n : Int)) = false := decide_eq_false h2
      by_cases h3 : r = (n : Int) - 1
      · have q3 : (r != (n : Int) - 1) = false := by simp [h3]
        obtain ⟨n', hn'⟩ : ∃ n', n' = n - 1 := ⟨_, rfl⟩
        have hnn : n' < n := by omega
        have HR := Lib.hid h3
        have HN' := Lib.hid (show (n : Int) - 1 = (n' : Int) by omega)
        have HN2 := Lib.hid hn'
        clear h3 hn'
        go_enter Try.func16, Try.ntmps16
        go_wp2
        go_loop [4] (fun iv => ∃ i : Nat, i ≤ n ∧ iv = .int .i64 (i : Int) ∧ Kin l i) (fun iv => n - (intOf iv).toNat)
        case atStart => exact ⟨0, Nat.zero_le _, rfl, fun p hp => absurd hp (Nat.not_lt_zero p)⟩
        case round =>
          obtain ⟨i, hi, rfl, hKi⟩ := hrel
          have HKI := Lib.hid hKi
          clear hKi
          by_cases hlt : i < n
          · have hlz : (i : Int) < (n : Int) := by omega
            have hil : i < l.length := by rw [← HL.out]; exact hlt
            obtain ⟨bA, off, rfl, hbA, hcA⟩ := HN.out (by omega)
            obtain ⟨K, ck, _, _, _, _, c4, hI⟩ := hcA i hil
            have hks := HK.out _ (List.getElem_mem hil)
            have HKA := Lib.hid (kidsAt_eq hil)
            clear hcA
            generalize l[i] = x at *
            obtain ⟨kd, nn, pl, tx, ks⟩ := x
            dsimp only at c4 hI hks HKA
            go_wp2
            go_loop [5] (fun jv => ∃ j : Nat, j ≤ ks.length ∧ jv = .int .i64 (j : Int) ∧ ∀ k ∈ ks.take j, 0 ≤ k ∧ k < (i : Int)) (fun jv => ks.length - (intOf jv).toNat)
            case atStart => exact ⟨0, Nat.zero_le _, rfl, fun k hk => by simp at hk⟩
            case round =>
              obtain ⟨j, hj, rfl, hkj⟩ := hrel
              have HKJ := Lib.hid hkj
              clear hkj
              by_cases hjl : j < ks.length
              · have hjz : (j : Int) < (ks.length : Int) := by omega
                obtain ⟨bK, oK, rfl, hbK, hcK⟩ := hI (by omega)
                have hck := hcK j hjl
                have HTJ := Lib.hid (show ks.take (j + 1) = ks.take j ++ [ks[j]] from List.take_succ_eq_append_getElem hjl)
                have HMM := Lib.hid (show ks[j] ∈ kidsAt l i by rw [HKA.out]; exact List.getElem_mem _)
                clear hcK
                generalize ks[j] = kk at *
                by_cases g1 : kk < 0
                · have t1 : decide (kk < 0) = true := decide_eq_true g1
                  have HF := Lib.hid (show v = false by rw [HV.out]; exact HNO.out (Kin l l.length) (fun h => (snd_iff.1 h).2.1) (fun h => by have := (h i hil kk HMM.out).1; omega))
                  go_wp2
                  go_ret
                  exact ⟨ret_bool HF.out.symm, hb⟩
                · have t1 : decide (kk < 0) = false := decide_eq_false g1
                  by_cases g2 : (i : Int) ≤ kk
                  · have t2 : decide ((i : Int) ≤ kk) = true := decide_eq_true g2
                    have HF := Lib.hid (show v = false by rw [HV.out]; exact HNO.out (Kin l l.length) (fun h => (snd_iff.1 h).2.1) (fun h => by have := (h i hil kk HMM.out).2; omega))
                    go_wp2
                    go_ret
                    exact ⟨ret_bool HF.out.symm, hb⟩
                  · have t2 : decide ((i : Int) ≤ kk) = false := decide_eq_false g2
                    go_wp2
                    go_round
                    case rel =>
                      refine ⟨j + 1, by omega, by go_num, ?_⟩
                      rw [HTJ.out]
                      intro k hk
                      rcases List.mem_append.1 hk with hk | hk
                      · exact HKJ.out k hk
                      · obtain rfl : k = kk := by simpa using hk
                        omega
                    case measure => simp [intOf]; omega
              · obtain rfl : j = ks.length := by omega
                have hjz : ¬ (ks.length : Int) < (ks.length : Int) := by omega
                go_wp2
                go_round
                case rel =>
                  refine ⟨i + 1, by omega, by go_num, fun p hp k hk => ?_⟩
                  by_cases e : p = i
                  · subst e
                    rw [HKA.out] at hk
                    have h7 := HKJ.out
                    rw [List.take_length] at h7
                    exact h7 k hk
                  · exact HKI.out p (by omega) k hk
                case measure => simp [intOf]; omega
          · obtain rfl : i = n := by omega
            have hlz : ¬ (i : Int) < (i : Int) := by omega
            have HBG := Lib.hid (begins_any A c i l HL.out (by omega) HK.out HKI.out n' hnn W HN.out)
            have HV2 := Lib.hid (show v = (bgI (bgA l n') == 0) by
              rw [HV.out, Bool.eq_iff_iff, beq_iff_eq]
              have hkin : Kin l l.length := by rw [← HL.out]; exact HKI.out
              have hnl : l.length - 1 = n' := by rw [← HL.out, HN2.out]
              constructor
              · intro h
                have h8 : Snd l r := by
                  by_cases h9 : Snd l r
                  · exact h9
                  · rw [sndB_false h9] at h; cases h
                have h9 := (snd_iff.1 h8).2.2
                rw [hnl] at h9
                rw [h9]; rfl
              · intro h
                have h9 : bgA l n' = some 0 := by
                  cases h10 : bgA l n' with
                  | none => rw [h10] at h; exact absurd h (by decide)
                  | some s =>
                    rw [h10] at h
                    have h11 : (s : Int) = 0 := h
                    have : s = 0 := by omega
                    rw [this]
                exact sndB_true (snd_iff.2 ⟨⟨by rw [← HL.out]; omega, by rw [← HL.out]; omega, by rw [← HL.out]; exact HR.out⟩, hkin, by rw [hnl]; exact h9⟩))
            have hz := HN'.out
            generalize bgI (bgA l n') = z at *
            go_wp2_with (go_at_call 28; refine HBG.out.mono ?_)
            rintro e w5 ⟨rfl, hb5⟩
            clear hz
            go_wp2
            go_ret
            exact ⟨ret_bool HV2.out.symm, bt hb hb5⟩
      · have q3 : (r != (n : Int) - 1) = true := by simpa using h3
        have HF := Lib.hid (show v = false by rw [HV.out]; exact HNO.out (r = (l.length : Int) - 1) (fun h => (snd_iff.1 h).1.2.2) (by rw [← HL.out]; exact h3))
        clear h3
        go_enter Try.func16, Try.ntmps16
        go_wp2
        go_ret
        exact ⟨ret_bool HF.out.symm, hb⟩
end Go.Proofs.Ytcnmkmdedeiffaa
