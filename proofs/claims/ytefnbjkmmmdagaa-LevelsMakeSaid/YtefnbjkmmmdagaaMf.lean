/- PROVED here: the contract of the document's lattice. No condition but those in each theorem's own head. -/
import Derived.Test.YtefnbjkmmmdagaaMc
namespace Go.Proofs.Ytefnbjkmmmdagaa
open Go Go.RowKit

/-- what must not be said of two places -/
def badP (n : Nat) (U : Nat → Nat → Bool) (a b : Nat) : Bool := (((decide (a ≠ b) && beB n U a b) && beB n U b a) || decide (fstI n (jnB n U a b) < 0)) || decide (fstI n (mtB n U a b) < 0)
def latB (n : Nat) (U : Nat → Nat → Bool) : Bool := (List.range n).all fun a => (List.range n).all fun b => !badP n U a b
theorem latB_no {n : Nat} {U : Nat → Nat → Bool} {a b : Nat} (ha : a < n) (hb : b < n) (h : badP n U a b = true) : latB n U = false := by
  unfold latB
  rw [List.all_eq_false]
  refine ⟨a, List.mem_range.2 ha, ?_⟩
  rw [Bool.not_eq_true, List.all_eq_false]
  exact ⟨b, List.mem_range.2 hb, by rw [h]; simp⟩
theorem latB_yes {n : Nat} {U : Nat → Nat → Bool} (h : ∀ a, a < n → ∀ b, b < n → badP n U a b = false) : latB n U = true := by
  unfold latB
  rw [List.all_eq_true]
  intro a ha
  rw [List.all_eq_true]
  intro b hb
  rw [h a (List.mem_range.1 ha) b (List.mem_range.1 hb)]; rfl
set_option maxRecDepth 100000 in
set_option maxHeartbeats 4000000 in
theorem rlattice_any (g : Nat) (l : List ByteArray) (U : Nat → Nat → Bool) (w : World) (hl : l.length ≤ 1000) (hL : RLat w g l U) :
    Calls Try.prog 43 #[.pointer (some ⟨g, 0, none⟩)] w fun e w' => e = .returned (.bool (latB l.length U)) ∧ w = w' := by
  have HB := Lib.hid (fun a b => rbelow_any g l U a b w hL)
  have HJ := Lib.hid (fun a b => rjoin_any g l U a b w hl hL)
  have HM := Lib.hid (fun a b => rmeet_any g l U a b w hl hL)
  obtain ⟨A, cA, _, _, _, h1, _, _, _, _⟩ := hL
  obtain ⟨n, hn⟩ : ∃ n, n = l.length := ⟨_, rfl⟩
  rw [← hn] at h1 hl HB HJ HM ⊢
  clear hn
  go_enter Try.func43, Try.ntmps43
  go_wp2_with (fail)
  go_loop [3] (fun i => ∃ a : Nat, a ≤ n ∧ i = .int .i64 (a : Int) ∧ Hid (∀ x, x < a → ∀ y, y < n → badP n U x y = false)) (fun i => n - (intOf i).toNat)
  case atStart => exact ⟨0, Nat.zero_le _, rfl, Lib.hid (fun x h => by omega)⟩
  case round =>
    obtain ⟨a, ha, rfl, HA⟩ := hrel
    by_cases hlt : a < n
    · have hlz : (a : Int) < (n : Int) := by omega
      go_wp2_with (fail)
      go_loop [4] (fun i => ∃ b : Nat, b ≤ n ∧ i = .int .i64 (b : Int) ∧ Hid (∀ y, y < b → badP n U a y = false)) (fun i => n - (intOf i).toNat)
      case atStart => exact ⟨0, Nat.zero_le _, rfl, Lib.hid (fun x h => by omega)⟩
      case round =>
        obtain ⟨b, hb, rfl, HY⟩ := hrel
        by_cases hlt2 : b < n
        · have hlz2 : (b : Int) < (n : Int) := by omega
          have HT := Lib.hid (fun h => latB_no (U := U) hlt hlt2 h)
          have HF := Lib.hid (fun (h : badP n U a b = false) => (show ∀ y, y < b + 1 → badP n U a y = false from next_no HY.out h))
          have HP : Hid (badP n U a b = ((((decide (a ≠ b) && beB n U a b) && beB n U b a) || decide (fstI n (jnB n U a b) < 0)) || decide (fstI n (mtB n U a b) < 0))) := Lib.hid rfl
          obtain ⟨B, hB⟩ : ∃ B : Int → Int → Bool, ∀ x y, B x y = beB n U x y := ⟨_, fun _ _ => rfl⟩
          obtain ⟨J, hJ⟩ : ∃ J : Int → Int → Int, ∀ x y, J x y = fstI n (jnB n U x y) := ⟨_, fun _ _ => rfl⟩
          obtain ⟨M, hM⟩ : ∃ M : Int → Int → Int, ∀ x y, M x y = fstI n (mtB n U x y) := ⟨_, fun _ _ => rfl⟩
          rw [← hB, ← hB, ← hJ, ← hM] at HP
          simp only [← hB] at HB
          simp only [← hJ] at HJ
          simp only [← hM] at HM
          clear hB hJ hM HY
          by_cases hab : a = b
          · have hq : ((a : Int) != (b : Int)) = false := by rw [hab]; simp
            have HD := Lib.hid (show decide (a ≠ b) = false from decide_eq_false (fun h => h hab))
            clear hab
            by_cases h3 : J a b < 0
            · have HR := Lib.hid (HT.out (by rw [HP.out, HD.out]; simp [h3]))
              go_wp2_with (first | (go_at_call 15; refine (HB.out _ _).mono ?_; rintro e w' ⟨rfl, rfl⟩) | (go_at_call 17; refine (HJ.out _ _).mono ?_; rintro e w' ⟨rfl, rfl⟩) | (go_at_call 19; refine (HM.out _ _).mono ?_; rintro e w' ⟨rfl, rfl⟩))
              go_ret
              exact ⟨ret_bool HR.out.symm, rfl⟩
            · by_cases h4 : M a b < 0
              · have HR := Lib.hid (HT.out (by rw [HP.out, HD.out]; simp [h4]))
                go_wp2_with (first | (go_at_call 15; refine (HB.out _ _).mono ?_; rintro e w' ⟨rfl, rfl⟩) | (go_at_call 17; refine (HJ.out _ _).mono ?_; rintro e w' ⟨rfl, rfl⟩) | (go_at_call 19; refine (HM.out _ _).mono ?_; rintro e w' ⟨rfl, rfl⟩))
                go_ret
                exact ⟨ret_bool HR.out.symm, rfl⟩
              · have HR := Lib.hid (HF.out (by rw [HP.out, HD.out]; simp [h3, h4]))
                go_wp2_with (first | (go_at_call 15; refine (HB.out _ _).mono ?_; rintro e w' ⟨rfl, rfl⟩) | (go_at_call 17; refine (HJ.out _ _).mono ?_; rintro e w' ⟨rfl, rfl⟩) | (go_at_call 19; refine (HM.out _ _).mono ?_; rintro e w' ⟨rfl, rfl⟩))
                go_round
                case rel => exact ⟨b + 1, by omega, by go_num, HR⟩
                case measure => simp [intOf]; omega
          · have hq : ((a : Int) != (b : Int)) = true := by rw [bne_iff_ne]; omega
            have HD := Lib.hid (show decide (a ≠ b) = true from decide_eq_true hab)
            clear hab
            cases hx1 : B a b
            · skip
              by_cases h3 : J a b < 0
              · have HR := Lib.hid (HT.out (by rw [HP.out, HD.out, hx1]; simp [h3]))
                go_wp2_with (first | (go_at_call 15; refine (HB.out _ _).mono ?_; rintro e w' ⟨rfl, rfl⟩) | (go_at_call 17; refine (HJ.out _ _).mono ?_; rintro e w' ⟨rfl, rfl⟩) | (go_at_call 19; refine (HM.out _ _).mono ?_; rintro e w' ⟨rfl, rfl⟩))
                go_ret
                exact ⟨ret_bool HR.out.symm, rfl⟩
              · by_cases h4 : M a b < 0
                · have HR := Lib.hid (HT.out (by rw [HP.out, HD.out, hx1]; simp [h4]))
                  go_wp2_with (first | (go_at_call 15; refine (HB.out _ _).mono ?_; rintro e w' ⟨rfl, rfl⟩) | (go_at_call 17; refine (HJ.out _ _).mono ?_; rintro e w' ⟨rfl, rfl⟩) | (go_at_call 19; refine (HM.out _ _).mono ?_; rintro e w' ⟨rfl, rfl⟩))
                  go_ret
                  exact ⟨ret_bool HR.out.symm, rfl⟩
                · have HR := Lib.hid (HF.out (by rw [HP.out, HD.out, hx1]; simp [h3, h4]))
                  go_wp2_with (first | (go_at_call 15; refine (HB.out _ _).mono ?_; rintro e w' ⟨rfl, rfl⟩) | (go_at_call 17; refine (HJ.out _ _).mono ?_; rintro e w' ⟨rfl, rfl⟩) | (go_at_call 19; refine (HM.out _ _).mono ?_; rintro e w' ⟨rfl, rfl⟩))
                  go_round
                  case rel => exact ⟨b + 1, by omega, by go_num, HR⟩
                  case measure => simp [intOf]; omega
            · cases hx2 : B b a
              · skip
                by_cases h3 : J a b < 0
                · have HR := Lib.hid (HT.out (by rw [HP.out, HD.out, hx1, hx2]; simp [h3]))
                  go_wp2_with (first | (go_at_call 15; refine (HB.out _ _).mono ?_; rintro e w' ⟨rfl, rfl⟩) | (go_at_call 17; refine (HJ.out _ _).mono ?_; rintro e w' ⟨rfl, rfl⟩) | (go_at_call 19; refine (HM.out _ _).mono ?_; rintro e w' ⟨rfl, rfl⟩))
                  go_ret
                  exact ⟨ret_bool HR.out.symm, rfl⟩
                · by_cases h4 : M a b < 0
                  · have HR := Lib.hid (HT.out (by rw [HP.out, HD.out, hx1, hx2]; simp [h4]))
                    go_wp2_with (first | (go_at_call 15; refine (HB.out _ _).mono ?_; rintro e w' ⟨rfl, rfl⟩) | (go_at_call 17; refine (HJ.out _ _).mono ?_; rintro e w' ⟨rfl, rfl⟩) | (go_at_call 19; refine (HM.out _ _).mono ?_; rintro e w' ⟨rfl, rfl⟩))
                    go_ret
                    exact ⟨ret_bool HR.out.symm, rfl⟩
                  · have HR := Lib.hid (HF.out (by rw [HP.out, HD.out, hx1, hx2]; simp [h3, h4]))
                    go_wp2_with (first | (go_at_call 15; refine (HB.out _ _).mono ?_; rintro e w' ⟨rfl, rfl⟩) | (go_at_call 17; refine (HJ.out _ _).mono ?_; rintro e w' ⟨rfl, rfl⟩) | (go_at_call 19; refine (HM.out _ _).mono ?_; rintro e w' ⟨rfl, rfl⟩))
                    go_round
                    case rel => exact ⟨b + 1, by omega, by go_num, HR⟩
                    case measure => simp [intOf]; omega
              · have HR := Lib.hid (HT.out (by rw [HP.out, HD.out, hx1, hx2]; simp))
                go_wp2_with (first | (go_at_call 15; refine (HB.out _ _).mono ?_; rintro e w' ⟨rfl, rfl⟩) | (go_at_call 17; refine (HJ.out _ _).mono ?_; rintro e w' ⟨rfl, rfl⟩) | (go_at_call 19; refine (HM.out _ _).mono ?_; rintro e w' ⟨rfl, rfl⟩))
                go_ret
                exact ⟨ret_bool HR.out.symm, rfl⟩
        · have hlz2 : ¬ (b : Int) < (n : Int) := by omega
          have HA2 := Lib.hid (show ∀ x, x < a + 1 → ∀ y, y < n → badP n U x y = false from fun x hx y hy => by
            by_cases e : x = a
            · subst e; exact HY.out y (by omega)
            · exact HA.out x (by omega) y hy)
          clear HY HA
          go_wp2
          go_round
          case rel => exact ⟨a + 1, by omega, by go_num, HA2⟩
          case measure => simp [intOf]; omega
    · have hlz : ¬ (a : Int) < (n : Int) := by omega
      have HR := Lib.hid (latB_yes (U := U) (n := n) (fun x hx => HA.out x (by omega)))
      go_wp2
      go_ret
      exact ⟨ret_bool HR.out.symm, rfl⟩
end Go.Proofs.Ytefnbjkmmmdagaa
