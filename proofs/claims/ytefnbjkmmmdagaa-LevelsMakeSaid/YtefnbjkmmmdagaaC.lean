/- PROVED here: the contract of checkNames. No condition but those in each theorem's own head. -/
import Derived.Test.YtefnbjkmmmdagaaB
namespace Go.Proofs.Ytefnbjkmmmdagaa
open Go Go.RowKit

/-- does a name come twice -/
def dupB (l : List ByteArray) : Bool := (List.range l.length).any fun i => decide (0 ≤ idxO (l.take i) (l.getD i ⟨#[]⟩))
/-- what is wrong with names -/
def errN (l : List ByteArray) : Nat := if l.length = 0 ∨ 16 < l.length then 8 else if l.all nameB = false then 3 else if dupB l = true then 4 else 0

set_option maxRecDepth 100000 in
set_option maxHeartbeats 4000000 in
theorem check_core (A : Option Addr) (c : Nat) (l : List ByteArray) (r : Nat) (H : Hid (errN l = r)) (w : World) (hl : l.length ≤ maxLen) (hc : l.length ≤ c) (hs : ∀ s ∈ l, s.size ≤ maxLen) (hA : Strs w A l) :
    Calls Try.prog 33 #[.slice A l.length c] w fun e w' => e = .returned (.int .i64 (r : Int)) ∧ w = w' := by
  unfold maxLen at hl
  have HA := Lib.hid hA
  have HSZ := Lib.hid hs
  clear hA hs
  by_cases h0 : l.length = 0
  · have hr : 8 = r := by rw [← H.out]; unfold errN; rw [if_pos (.inl h0)]
    subst hr
    have hq0 : ((l.length : Int) == 0) = true := by rw [h0]; rfl
    clear h0
    go_enter Try.func33, Try.ntmps33
    go_wp2
    go_ret
    exact ⟨rfl, rfl⟩
  · have hq0 : ((l.length : Int) == 0) = false := by rw [beq_eq_false_iff_ne]; omega
    by_cases h16 : 16 < l.length
    · have hr : 8 = r := by rw [← H.out]; unfold errN; rw [if_pos (.inr h16)]
      subst hr
      have hz16 : (16 : Int) < (l.length : Int) := by omega
      clear h0
      go_enter Try.func33, Try.ntmps33
      go_wp2
      go_ret
      exact ⟨rfl, rfl⟩
    · have hz16 : ¬ (16 : Int) < (l.length : Int) := by omega
      have H2 := Lib.hid (show (if l.all nameB = false then 3 else if dupB l = true then 4 else 0) = r by
        have e : ¬ (l.length = 0 ∨ 16 < l.length) := by omega
        have := H.out; unfold errN at this; rwa [if_neg e] at this)
      clear h0 H
      go_enter Try.func33, Try.ntmps33
      go_wp2
      clear hq0 hz16
      go_loop [17] (fun i => ∃ k : Nat, k ≤ l.length ∧ i = .int .i64 (k : Int) ∧ Hid (∀ j (hj : j < l.length), j < k → nameB l[j] = true)) (fun i => l.length - (intOf i).toNat)
      case atStart => exact ⟨0, by omega, rfl, Lib.hid (fun j _ h => by omega)⟩
      case round =>
        obtain ⟨k, hk, rfl, HN⟩ := hrel
        by_cases hlt : k < l.length
        · have hlz : (k : Int) < (l.length : Int) := by omega
          obtain ⟨b, off, rfl, hb, hcell⟩ := HA.out (by omega)
          have hck := hcell k hlt
          clear hcell
          have HNM := Lib.hid (fun w => name_any l[k] w (HSZ.out _ (List.getElem_mem hlt)))
          cases hb : nameB l[k] with
          | true =>
            have HN2 := Lib.hid (fun j (hj : j < l.length) (h : j < k + 1) => show nameB l[j] = true by
              by_cases e : j = k
              · subst e; exact hb
              · exact HN.out j hj (by omega))
            rw [hb] at HNM
            clear hb
            generalize l[k] = x at *
            go_wp2_with (go_at_call 12; refine (HNM.out _).mono ?_; rintro e w' ⟨rfl, rfl⟩)
            go_round
            case rel => exact ⟨k + 1, by omega, by go_num, HN2⟩
            case measure => simp [intOf]; omega
          | false =>
            have hr : 3 = r := by
              rw [← H2.out, if_pos]
              rw [List.all_eq_false]
              exact ⟨_, List.getElem_mem hlt, by rw [hb]; decide⟩
            subst hr
            rw [hb] at HNM
            clear hb
            generalize l[k] = x at *
            go_wp2_with (go_at_call 12; refine (HNM.out _).mono ?_; rintro e w' ⟨rfl, rfl⟩)
            go_ret
            exact ⟨rfl, rfl⟩
        · have hlz : ¬ (k : Int) < (l.length : Int) := by omega
          have H3 := Lib.hid (show (if dupB l = true then 4 else 0) = r by
            have e : ¬ (l.all nameB = false) := by
              rw [Bool.not_eq_false, List.all_eq_true]
              intro s hs
              obtain ⟨j, hj, rfl⟩ := List.getElem_of_mem hs
              exact HN.out j hj (by omega)
            have := H2.out; rwa [if_neg e] at this)
          clear H2 HN
          go_wp2
          go_loop [27] (fun i => ∃ k : Nat, k ≤ l.length ∧ i = .int .i64 (k : Int) ∧ Hid (∀ j, j < k → decide (0 ≤ idxO (l.take j) (l.getD j ⟨#[]⟩)) = false)) (fun i => l.length - (intOf i).toNat)
          case atStart => exact ⟨0, by omega, rfl, Lib.hid (fun j h => by omega)⟩
          case round =>
            obtain ⟨k, hk, rfl, HN⟩ := hrel
            by_cases hlt : k < l.length
            · have hlz : (k : Int) < (l.length : Int) := by omega
              have hkc : (k : Int) ≤ (c : Int) := by omega
              have hkl : (l.take k).length = k := by simp; omega
              have HI := Lib.hid (fun w h => contains_str A c (l.take k) l[k] w (by omega) h)
              rw [hkl] at HI
              obtain ⟨b, off, rfl, hb, hcell⟩ := HA.out (by omega)
              have hck := hcell k hlt
              have HT := Lib.hid (HA.out.take k)
              have hgd : l.getD k ⟨#[]⟩ = l[k] := by simp [hlt]
              clear hcell hkl
              cases hd : decide (0 ≤ idxO (l.take k) l[k]) with
              | true =>
                have hr : 4 = r := by
                  rw [← H3.out, if_pos]
                  unfold dupB
                  rw [List.any_eq_true]
                  exact ⟨k, by simpa using hlt, by rw [hgd]; exact hd⟩
                subst hr
                rw [hd] at HI
                clear hd hgd
                generalize l[k] = x at *
                go_wp2_with (go_at_call 51; refine (HI.out _ HT.out).mono ?_; rintro e w' ⟨rfl, rfl⟩)
                go_ret
                exact ⟨rfl, rfl⟩
              | false =>
                have HN2 := Lib.hid (fun j (h : j < k + 1) => show decide (0 ≤ idxO (l.take j) (l.getD j ⟨#[]⟩)) = false by
                  by_cases e : j = k
                  · subst e; rw [hgd]; exact hd
                  · exact HN.out j (by omega))
                rw [hd] at HI
                clear hd hgd
                generalize l[k] = x at *
                go_wp2_with (go_at_call 51; refine (HI.out _ HT.out).mono ?_; rintro e w' ⟨rfl, rfl⟩)
                go_round
                case rel => exact ⟨k + 1, by omega, by go_num, HN2⟩
                case measure => simp [intOf]; omega
            · have hlz : ¬ (k : Int) < (l.length : Int) := by omega
              have hr : 0 = r := by
                have e : ¬ dupB l = true := by
                  unfold dupB
                  rw [Bool.not_eq_true, List.any_eq_false]
                  intro j hj
                  rw [HN.out j (by simp at hj; omega)]; decide
                have := H3.out; rwa [if_neg e] at this
              subst hr
              go_wp2
              go_ret
              exact ⟨rfl, rfl⟩
theorem check_any (A : Option Addr) (c : Nat) (l : List ByteArray) (w : World) (hl : l.length ≤ maxLen) (hc : l.length ≤ c) (hs : ∀ s ∈ l, s.size ≤ maxLen) (hA : Strs w A l) :
    Calls Try.prog 33 #[.slice A l.length c] w fun e w' => e = .returned (.int .i64 (errN l : Int)) ∧ w = w' := check_core A c l _ (Lib.hid rfl) w hl hc hs hA
end Go.Proofs.Ytefnbjkmmmdagaa
