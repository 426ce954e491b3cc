/- PROVED here: the contract of the document's named. No condition but those in each theorem's own head. -/
import Derived.Test.YtefnbjkmmmdagaaMc
import Derived.Test.YtefnbjkmmmdagaaC
import Derived.BigQuiet
namespace Go.Proofs.Ytefnbjkmmmdagaa
open Go Go.RowKit

theorem idxO_in {α : Type} [DecidableEq α] {l : List α} {x : α} {j : Nat} (hj : j < l.length) (he : l[j] = x) : 0 ≤ idxO l x := by
  unfold idxO
  cases h : l.findIdx? (fun y => decide (y = x)) with
  | some i => simp only; omega
  | none =>
    rw [List.findIdx?_eq_none_iff] at h
    have := h _ (List.getElem_mem hj)
    rw [he] at this
    simp at this
theorem Strs.drew {w : World} {A : Option Addr} {l : List ByteArray} (h : Strs w A l) (n : Nat) : Strs (w.drewN n) A l := h.below (below_drewN (Below.refl _ _) n)
set_option maxRecDepth 100000 in
set_option maxHeartbeats 4000000 in
theorem rnamed_core (A : Option Addr) (c : Nat) (l : List ByteArray) (r : Nat) (H : Hid (errN l = r)) (w : World) (hl : l.length ≤ maxLen) (hs : ∀ s ∈ l, s.size ≤ 281474976710656) (hA : Strs w A l) :
    Calls Try.prog 41 #[.slice A l.length c] w fun e w' => e = .returned (.int .i64 (r : Int)) ∧ ∃ n, w' = w.drewN n := by
  unfold maxLen at hl
  have HA := Lib.hid hA
  have HSZ := Lib.hid hs
  clear hA hs
  by_cases h0 : l.length < 1
  · have hr : 8 = r := by rw [← H.out]; unfold errN; rw [if_pos (.inl (by omega))]
    subst hr
    have hq0 : (l.length : Int) < 1 := by omega
    clear h0
    go_enter Try.func41, Try.ntmps41
    go_wp2
    go_ret
    exact ⟨rfl, 0, rfl⟩
  · have hq0 : ¬ (l.length : Int) < 1 := by omega
    by_cases h16 : 16 < l.length
    · have hr : 8 = r := by rw [← H.out]; unfold errN; rw [if_pos (.inr h16)]
      subst hr
      have hz16 : (16 : Int) < (l.length : Int) := by omega
      clear h0
      go_enter Try.func41, Try.ntmps41
      go_wp2
      go_ret
      exact ⟨rfl, 0, rfl⟩
    · have hz16 : ¬ (16 : Int) < (l.length : Int) := by omega
      have H2 := Lib.hid (show (if l.all nameB = false then 3 else if dupB l = true then 4 else 0) = r by
        have e : ¬ (l.length = 0 ∨ 16 < l.length) := by omega
        have := H.out; unfold errN at this; rwa [if_neg e] at this)
      clear h0 H
      go_enter Try.func41, Try.ntmps41
      go_wp2
      clear hq0 hz16
      go_loop [3] (fun i => ∃ k : Nat, k ≤ l.length ∧ i = .int .i64 (k : Int) ∧ Hid (∀ j (hj : j < l.length), j < k → nameB l[j] = true)) (fun i => l.length - (intOf i).toNat)
      case atStart => exact ⟨0, by omega, rfl, Lib.hid (fun j _ h => by omega)⟩
      case round =>
        obtain ⟨k, hk, rfl, HN⟩ := hrel
        by_cases hlt : k < l.length
        · have hlz : (k : Int) < (l.length : Int) := by omega
          obtain ⟨b, off, rfl, hb, hcell⟩ := HA.out (by omega)
          have hck := hcell k hlt
          clear hcell
          have HNM := Lib.hid (fun w => rname_any l[k] w (HSZ.out _ (List.getElem_mem hlt)))
          cases hb : nameB l[k] with
          | true =>
            have HN2 := Lib.hid (fun j (hj : j < l.length) (h : j < k + 1) => show nameB l[j] = true by
              by_cases e : j = k
              · subst e; exact hb
              · exact HN.out j hj (by omega))
            rw [hb] at HNM
            clear hb
            generalize l[k] = x at *
            go_wp2_with (go_at_call 13; refine (HNM.out _).mono ?_; rintro e w' ⟨rfl, rfl⟩)
            go_round
            case rel => exact ⟨k + 1, by omega, by go_num, HN2⟩
            case measure => simp [intOf]; omega
          | false =>
            have hr : 3 = r := by
              rw [← H2.out, if_pos]
              rw [List.all_eq_false]
              exact ⟨_, List.getElem_mem hlt, by rw [hb]; decide⟩
            subst hr
            rw [hb] at HNM
            clear hb
            generalize l[k] = x at *
            go_wp2_with (go_at_call 13; refine (HNM.out _).mono ?_; rintro e w' ⟨rfl, rfl⟩)
            go_ret
            exact ⟨rfl, 0, rfl⟩
        · have hlz : ¬ (k : Int) < (l.length : Int) := by omega
          have H3 := Lib.hid (show (if dupB l = true then 4 else 0) = r by
            have e : ¬ (l.all nameB = false) := by
              rw [Bool.not_eq_false, List.all_eq_true]
              intro s hs
              obtain ⟨j, hj, rfl⟩ := List.getElem_of_mem hs
              exact HN.out j hj (by omega)
            have := H2.out; rwa [if_neg e] at this)
          clear H2 HN
          go_wp2
          go_loopw [5] (fun i wr => ∃ k : Nat, k ≤ l.length ∧ i = .int .i64 (k : Int) ∧ Hid (∀ j, j < k → decide (0 ≤ idxO (l.take j) (l.getD j ⟨#[]⟩)) = false) ∧ ∃ n, wr = w.drewN n) (fun i _ => l.length - (intOf i).toNat)
          case atStart => exact ⟨0, by omega, rfl, Lib.hid (fun j h => by omega), 0, rfl⟩
          case round =>
            obtain ⟨k, hk, rfl, HN, n, rfl⟩ := hrel
            by_cases hlt : k < l.length
            · have hlz : (k : Int) < (l.length : Int) := by omega
              go_wp2
              go_loopw [6] (fun i wr => ∃ j : Nat, j ≤ k ∧ i = .int .i64 (j : Int) ∧ Hid (∀ i (hi : i < l.length), i < j → l[i] ≠ l[k]) ∧ ∃ n, wr = w.drewN n) (fun i _ => k - (intOf i).toNat)
              case atStart => exact ⟨0, by omega, rfl, Lib.hid (fun j _ h => by omega), n, rfl⟩
              case round =>
                obtain ⟨j, hj, rfl, HM, n, rfl⟩ := hrel
                by_cases hjk : j < k
                · have hjz : (j : Int) < (k : Int) := by omega
                  have hjl : j < l.length := by omega
                  have hjlz : (j : Int) < (l.length : Int) := by omega
                  obtain ⟨b, off, rfl, hb, hcell⟩ := HA.out (by omega)
                  have hck := hcell k hlt
                  have hcj := hcell j hjl
                  clear hcell
                  by_cases he : l[j] = l[k]
                  · have hr : 4 = r := by
                      rw [← H3.out, if_pos]
                      unfold dupB
                      rw [List.any_eq_true]
                      exact ⟨k, by simpa using hlt, by
                        have hgd : l.getD k ⟨#[]⟩ = l[k] := by simp [hlt]
                        rw [hgd]
                        exact decide_eq_true (idxO_in (j := j) (by simp; omega) (by rw [List.getElem_take]; exact he))⟩
                    subst hr
                    have hq : (l[k].toList == l[j].toList) = true := by rw [he]; exact beq_iff_eq.2 rfl
                    clear he HM
                    generalize l[k] = x at *
                    generalize l[j] = y at *
                    go_wp2
                    go_quiet (fail)
                    go_wp2
                    go_ret
                    exact ⟨rfl, n + nq, by rw [World.drewN_drewN]⟩
                  · have hq : (l[k].toList == l[j].toList) = false := by
                      rw [str_eq]; exact decide_eq_false he
                    have HM2 := Lib.hid (show ∀ i (hi : i < l.length), i < j + 1 → l[i] ≠ l[k] from fun i hi h => by
                      by_cases e : i = j
                      · subst e; exact he
                      · exact HM.out i hi (by omega))
                    clear he HM
                    go_wp2
                    go_quiet (fail)
                    go_wp2
                    go_roundw
                    case rel => exact ⟨j + 1, by omega, by go_num, HM2, n + nq, rfl⟩
                    case measure => simp [intOf]; omega
                · have hjz : ¬ (j : Int) < (k : Int) := by omega
                  have HN2 := Lib.hid (fun i (h : i < k + 1) => show decide (0 ≤ idxO (l.take i) (l.getD i ⟨#[]⟩)) = false by
                    by_cases e : i = k
                    · subst e
                      have hgd : l.getD i ⟨#[]⟩ = l[i] := by simp [hlt]
                      rw [hgd, idxO_miss (fun m hm => by
                        have hm' : m < i := by simp at hm; omega
                        rw [List.getElem_take]; exact HM.out m (by omega) (by omega))]
                      decide
                    · exact HN.out i (by omega))
                  clear HM HN
                  go_wp2
                  go_roundw
                  case rel => exact ⟨k + 1, by omega, by go_num, HN2, n, rfl⟩
                  case measure => simp [intOf]; omega
            · have hlz : ¬ (k : Int) < (l.length : Int) := by omega
              have hr : 0 = r := by
                have e : ¬ dupB l = true := by
                  unfold dupB
                  rw [Bool.not_eq_true, List.any_eq_false]
                  intro j hj
                  rw [HN.out j (by simp at hj; omega)]; decide
                have := H3.out; rwa [if_neg e] at this
              subst hr
              go_wp2
              go_ret
              exact ⟨rfl, n, rfl⟩
theorem rnamed_any (A : Option Addr) (c : Nat) (l : List ByteArray) (w : World) (hl : l.length ≤ maxLen) (hs : ∀ s ∈ l, s.size ≤ 281474976710656) (hA : Strs w A l) :
    Calls Try.prog 41 #[.slice A l.length c] w fun e w' => e = .returned (.int .i64 (errN l : Int)) ∧ ∃ n, w' = w.drewN n := rnamed_core A c l _ (Lib.hid rfl) w hl hs hA
end Go.Proofs.Ytefnbjkmmmdagaa
