/- PROVED here: contracts of the document's Join and Meet. No condition but those in each theorem's own head. -/
import Derived.Test.YtefnbjkmmmdagaaMa
namespace Go.Proofs.Ytefnbjkmmmdagaa
open Go Go.RowKit

/-- the first place of which something stands, or -1 -/
def fstI (n : Nat) (p : Nat → Bool) : Int := match (List.range n).find? p with | some i => (i : Int) | none => -1
theorem fstI_miss {n : Nat} {p : Nat → Bool} (h : ∀ j, j < n → p j = false) : fstI n p = -1 := by
  unfold fstI
  have : (List.range n).find? p = none := by
    rw [List.find?_eq_none]
    intro x hx
    rw [h x (List.mem_range.1 hx)]; simp
  rw [this]
theorem fstI_hit {n k : Nat} {p : Nat → Bool} (hk : k < n) (hp : p k = true) (h : ∀ j, j < k → p j = false) : fstI n p = k := by
  unfold fstI
  have : (List.range n).find? p = some k := by
    rw [List.find?_range_eq_some]
    exact ⟨hp, List.mem_range.2 hk, fun j hj => by rw [h j hj]; rfl⟩
  rw [this]
theorem next_no {p : Nat → Bool} {k : Nat} (h : ∀ j, j < k → p j = false) (hk : p k = false) : ∀ j, j < k + 1 → p j = false := fun j hj => by
  by_cases e : j = k
  · subst e; exact hk
  · exact h j (by omega)
theorem all_snoc (q : Nat → Bool) (d : Nat) : (List.range (d + 1)).all q = ((List.range d).all q && q d) := by rw [List.range_succ, List.all_append]; simp
theorem all_short {q : Nat → Bool} {d n : Nat} (h : d ≤ n) (hf : (List.range d).all q = false) : (List.range n).all q = false := by
  rw [List.all_eq_false] at hf ⊢
  obtain ⟨x, hx, hq⟩ := hf
  exact ⟨x, List.mem_range.2 (by have := List.mem_range.1 hx; omega), hq⟩
def jnB (n : Nat) (U : Nat → Nat → Bool) (a b : Int) (c : Nat) : Bool := (beB n U a (c : Int) && beB n U b (c : Int)) && (List.range n).all fun d => !beB n U a (d : Int) || !beB n U b (d : Int) || beB n U (c : Int) (d : Int)
set_option maxRecDepth 100000 in
set_option maxHeartbeats 2000000 in
theorem rjoin_any (g : Nat) (l : List ByteArray) (U : Nat → Nat → Bool) (a b : Int) (w : World) (hl : l.length ≤ 1000) (hL : RLat w g l U) :
    Calls Try.prog 17 #[.pointer (some ⟨g, 0, none⟩), .int .i64 a, .int .i64 b] w fun e w' => e = .returned (.int .i64 (fstI l.length (jnB l.length U a b))) ∧ w = w' := by
  have HL := Lib.hid hL
  obtain ⟨A, cA, _, _, _, h1, _, _, _, _⟩ := hL
  obtain ⟨n, hn⟩ : ∃ n, n = l.length := ⟨_, rfl⟩
  have HB := Lib.hid (show ∀ x y, Calls Try.prog 15 #[.pointer (some ⟨g, 0, none⟩), .int .i64 x, .int .i64 y] w fun e w' => e = .returned (.bool (beB n U x y)) ∧ w = w' from fun x y => by
    rw [hn]; exact rbelow_any g l U x y w HL.out)
  rw [← hn] at h1 hl ⊢
  clear hn HL
  go_enter Try.func17, Try.ntmps17
  go_wp2_with (fail)
  go_loop [7] (fun i => ∃ k : Nat, k ≤ n ∧ i = .int .i64 (k : Int) ∧ Hid (∀ j, j < k → jnB n U a b j = false)) (fun i => n - (intOf i).toNat)
  case atStart => exact ⟨0, Nat.zero_le _, rfl, Lib.hid (fun j h => by omega)⟩
  case round =>
    obtain ⟨k, hk, rfl, hN⟩ := hrel
    by_cases hlt : k < n
    · have hlz : (k : Int) < (n : Int) := by omega
      cases hx1 : beB n U a (k : Int)
      · have HF := Lib.hid (show jnB n U a b k = false by unfold jnB; rw [hx1]; simp)
        have HN := Lib.hid (next_no hN.out HF.out)
        go_wp2_with (go_at_call 15; refine (HB.out _ _).mono ?_; rintro e w' ⟨rfl, rfl⟩)
        go_loop [8, 9] (fun v i => ∃ d : Nat, d < n ∧ i = .int .i64 (d : Int) ∧ v = .bool false) (fun _ i => n - (intOf i).toNat)
        case atStart => exact ⟨0, by omega, rfl, rfl⟩
        case round =>
          obtain ⟨d, hd, rfl, rfl⟩ := hrel
          have hz0 : (d : Int) < (n : Int) := by omega
          go_wp2
          go_round
          case rel => exact ⟨k + 1, by omega, by go_num, HN⟩
          case measure => simp [intOf]; omega
      · cases hx2 : beB n U b (k : Int)
        · have HF := Lib.hid (show jnB n U a b k = false by unfold jnB; rw [hx2]; simp)
          have HN := Lib.hid (next_no hN.out HF.out)
          go_wp2_with (go_at_call 15; refine (HB.out _ _).mono ?_; rintro e w' ⟨rfl, rfl⟩)
          go_loop [8, 9] (fun v i => ∃ d : Nat, d < n ∧ i = .int .i64 (d : Int) ∧ v = .bool false) (fun _ i => n - (intOf i).toNat)
          case atStart => exact ⟨0, by omega, rfl, rfl⟩
          case round =>
            obtain ⟨d, hd, rfl, rfl⟩ := hrel
            have hz0 : (d : Int) < (n : Int) := by omega
            go_wp2
            go_round
            case rel => exact ⟨k + 1, by omega, by go_num, HN⟩
            case measure => simp [intOf]; omega
        · have HQ := Lib.hid (show jnB n U a b k = (List.range n).all fun d => !beB n U a (d : Int) || !beB n U b (d : Int) || beB n U (k : Int) (d : Int) by unfold jnB; rw [hx1, hx2]; rfl)
          go_wp2_with (go_at_call 15; refine (HB.out _ _).mono ?_; rintro e w' ⟨rfl, rfl⟩)
          go_loop [8, 9] (fun v i => ∃ (d : Nat) (L : Bool), d ≤ n ∧ i = .int .i64 (d : Int) ∧ v = .bool L ∧ Hid (L = (List.range d).all fun d => !beB n U a (d : Int) || !beB n U b (d : Int) || beB n U (k : Int) (d : Int))) (fun _ i => n - (intOf i).toNat)
          case atStart => exact ⟨0, true, Nat.zero_le _, rfl, rfl, Lib.hid rfl⟩
          case round =>
            obtain ⟨d, L, hd, rfl, rfl, hLq⟩ := hrel
            by_cases hdl : d < n
            · have hdz : (d : Int) < (n : Int) := by omega
              cases L
              · have HF := Lib.hid (show jnB n U a b k = false by rw [HQ.out]; exact all_short hd hLq.out.symm)
                have HN := Lib.hid (next_no hN.out HF.out)
                go_wp2
                go_round
                case rel => exact ⟨k + 1, by omega, by go_num, HN⟩
                case measure => simp [intOf]; omega
              · have HA := Lib.hid (show ((List.range (d + 1)).all fun d => !beB n U a (d : Int) || !beB n U b (d : Int) || beB n U (k : Int) (d : Int)) = (!beB n U a (d : Int) || !beB n U b (d : Int) || beB n U (k : Int) (d : Int)) by
                  rw [all_snoc, ← hLq.out, Bool.true_and])
                cases y1 : beB n U a (d : Int)
                · go_wp2_with (go_at_call 15; refine (HB.out _ _).mono ?_; rintro e w' ⟨rfl, rfl⟩)
                  go_round
                  case rel => exact ⟨d + 1, true, by omega, by go_num, rfl, Lib.hid (by rw [HA.out, y1]; rfl)⟩
                  case measure => simp [intOf]; omega
                · cases y2 : beB n U b (d : Int)
                  · go_wp2_with (go_at_call 15; refine (HB.out _ _).mono ?_; rintro e w' ⟨rfl, rfl⟩)
                    go_round
                    case rel => exact ⟨d + 1, true, by omega, by go_num, rfl, Lib.hid (by rw [HA.out, y1, y2]; rfl)⟩
                    case measure => simp [intOf]; omega
                  · go_wp2_with (go_at_call 15; refine (HB.out _ _).mono ?_; rintro e w' ⟨rfl, rfl⟩)
                    go_round
                    case rel => exact ⟨d + 1, _, by omega, by go_num, rfl, Lib.hid (by rw [HA.out, y1, y2]; rfl)⟩
                    case measure => simp [intOf]; omega
            · have hdz : ¬ (d : Int) < (n : Int) := by omega
              obtain rfl : d = n := by omega
              cases L
              · have HF := Lib.hid (show jnB d U a b k = false by rw [HQ.out]; exact hLq.out.symm)
                have HN := Lib.hid (next_no hN.out HF.out)
                go_wp2
                go_round
                case rel => exact ⟨k + 1, by omega, by go_num, HN⟩
                case measure => simp [intOf]; omega
              · have HR := Lib.hid (fstI_hit (p := jnB d U a b) hlt (by rw [HQ.out]; exact hLq.out.symm) hN.out)
                go_wp2
                go_ret
                exact ⟨ret_int HR.out.symm, rfl⟩
    · have hlz : ¬ (k : Int) < (n : Int) := by omega
      have HR := Lib.hid (fstI_miss (n := n) (p := jnB n U a b) (fun j hj => hN.out j (by omega)))
      go_wp2
      go_ret
      exact ⟨ret_int HR.out.symm, rfl⟩
def mtB (n : Nat) (U : Nat → Nat → Bool) (a b : Int) (c : Nat) : Bool := (beB n U (c : Int) a && beB n U (c : Int) b) && (List.range n).all fun d => !beB n U (d : Int) a || !beB n U (d : Int) b || beB n U (d : Int) (c : Int)
set_option maxRecDepth 100000 in
set_option maxHeartbeats 2000000 in
theorem rmeet_any (g : Nat) (l : List ByteArray) (U : Nat → Nat → Bool) (a b : Int) (w : World) (hl : l.length ≤ 1000) (hL : RLat w g l U) :
    Calls Try.prog 19 #[.pointer (some ⟨g, 0, none⟩), .int .i64 a, .int .i64 b] w fun e w' => e = .returned (.int .i64 (fstI l.length (mtB l.length U a b))) ∧ w = w' := by
  have HL := Lib.hid hL
  obtain ⟨A, cA, _, _, _, h1, _, _, _, _⟩ := hL
  obtain ⟨n, hn⟩ : ∃ n, n = l.length := ⟨_, rfl⟩
  have HB := Lib.hid (show ∀ x y, Calls Try.prog 15 #[.pointer (some ⟨g, 0, none⟩), .int .i64 x, .int .i64 y] w fun e w' => e = .returned (.bool (beB n U x y)) ∧ w = w' from fun x y => by
    rw [hn]; exact rbelow_any g l U x y w HL.out)
  rw [← hn] at h1 hl ⊢
  clear hn HL
  go_enter Try.func19, Try.ntmps19
  go_wp2_with (fail)
  go_loop [7] (fun i => ∃ k : Nat, k ≤ n ∧ i = .int .i64 (k : Int) ∧ Hid (∀ j, j < k → mtB n U a b j = false)) (fun i => n - (intOf i).toNat)
  case atStart => exact ⟨0, Nat.zero_le _, rfl, Lib.hid (fun j h => by omega)⟩
  case round =>
    obtain ⟨k, hk, rfl, hN⟩ := hrel
    by_cases hlt : k < n
    · have hlz : (k : Int) < (n : Int) := by omega
      cases hx1 : beB n U (k : Int) a
      · have HF := Lib.hid (show mtB n U a b k = false by unfold mtB; rw [hx1]; simp)
        have HN := Lib.hid (next_no hN.out HF.out)
        go_wp2_with (go_at_call 15; refine (HB.out _ _).mono ?_; rintro e w' ⟨rfl, rfl⟩)
        go_loop [8, 9] (fun v i => ∃ d : Nat, d < n ∧ i = .int .i64 (d : Int) ∧ v = .bool false) (fun _ i => n - (intOf i).toNat)
        case atStart => exact ⟨0, by omega, rfl, rfl⟩
        case round =>
          obtain ⟨d, hd, rfl, rfl⟩ := hrel
          have hz0 : (d : Int) < (n : Int) := by omega
          go_wp2
          go_round
          case rel => exact ⟨k + 1, by omega, by go_num, HN⟩
          case measure => simp [intOf]; omega
      · cases hx2 : beB n U (k : Int) b
        · have HF := Lib.hid (show mtB n U a b k = false by unfold mtB; rw [hx2]; simp)
          have HN := Lib.hid (next_no hN.out HF.out)
          go_wp2_with (go_at_call 15; refine (HB.out _ _).mono ?_; rintro e w' ⟨rfl, rfl⟩)
          go_loop [8, 9] (fun v i => ∃ d : Nat, d < n ∧ i = .int .i64 (d : Int) ∧ v = .bool false) (fun _ i => n - (intOf i).toNat)
          case atStart => exact ⟨0, by omega, rfl, rfl⟩
          case round =>
            obtain ⟨d, hd, rfl, rfl⟩ := hrel
            have hz0 : (d : Int) < (n : Int) := by omega
            go_wp2
            go_round
            case rel => exact ⟨k + 1, by omega, by go_num, HN⟩
            case measure => simp [intOf]; omega
        · have HQ := Lib.hid (show mtB n U a b k = (List.range n).all fun d => !beB n U (d : Int) a || !beB n U (d : Int) b || beB n U (d : Int) (k : Int) by unfold mtB; rw [hx1, hx2]; rfl)
          go_wp2_with (go_at_call 15; refine (HB.out _ _).mono ?_; rintro e w' ⟨rfl, rfl⟩)
          go_loop [8, 9] (fun v i => ∃ (d : Nat) (L : Bool), d ≤ n ∧ i = .int .i64 (d : Int) ∧ v = .bool L ∧ Hid (L = (List.range d).all fun d => !beB n U (d : Int) a || !beB n U (d : Int) b || beB n U (d : Int) (k : Int))) (fun _ i => n - (intOf i).toNat)
          case atStart => exact ⟨0, true, Nat.zero_le _, rfl, rfl, Lib.hid rfl⟩
          case round =>
            obtain ⟨d, L, hd, rfl, rfl, hLq⟩ := hrel
            by_cases hdl : d < n
            · have hdz : (d : Int) < (n : Int) := by omega
              cases L
              · have HF := Lib.hid (show mtB n U a b k = false by rw [HQ.out]; exact all_short hd hLq.out.symm)
                have HN := Lib.hid (next_no hN.out HF.out)
                go_wp2
                go_round
                case rel => exact ⟨k + 1, by omega, by go_num, HN⟩
                case measure => simp [intOf]; omega
              · have HA := Lib.hid (show ((List.range (d + 1)).all fun d => !beB n U (d : Int) a || !beB n U (d : Int) b || beB n U (d : Int) (k : Int)) = (!beB n U (d : Int) a || !beB n U (d : Int) b || beB n U (d : Int) (k : Int)) by
                  rw [all_snoc, ← hLq.out, Bool.true_and])
                cases y1 : beB n U (d : Int) a
                · go_wp2_with (go_at_call 15; refine (HB.out _ _).mono ?_; rintro e w' ⟨rfl, rfl⟩)
                  go_round
                  case rel => exact ⟨d + 1, true, by omega, by go_num, rfl, Lib.hid (by rw [HA.out, y1]; rfl)⟩
                  case measure => simp [intOf]; omega
                · cases y2 : beB n U (d : Int) b
                  · go_wp2_with (go_at_call 15; refine (HB.out _ _).mono ?_; rintro e w' ⟨rfl, rfl⟩)
                    go_round
                    case rel => exact ⟨d + 1, true, by omega, by go_num, rfl, Lib.hid (by rw [HA.out, y1, y2]; rfl)⟩
                    case measure => simp [intOf]; omega
                  · go_wp2_with (go_at_call 15; refine (HB.out _ _).mono ?_; rintro e w' ⟨rfl, rfl⟩)
                    go_round
                    case rel => exact ⟨d + 1, _, by omega, by go_num, rfl, Lib.hid (by rw [HA.out, y1, y2]; rfl)⟩
                    case measure => simp [intOf]; omega
            · have hdz : ¬ (d : Int) < (n : Int) := by omega
              obtain rfl : d = n := by omega
              cases L
              · have HF := Lib.hid (show mtB d U a b k = false by rw [HQ.out]; exact hLq.out.symm)
                have HN := Lib.hid (next_no hN.out HF.out)
                go_wp2
                go_round
                case rel => exact ⟨k + 1, by omega, by go_num, HN⟩
                case measure => simp [intOf]; omega
              · have HR := Lib.hid (fstI_hit (p := mtB d U a b) hlt (by rw [HQ.out]; exact hLq.out.symm) hN.out)
                go_wp2
                go_ret
                exact ⟨ret_int HR.out.symm, rfl⟩
    · have hlz : ¬ (k : Int) < (n : Int) := by omega
      have HR := Lib.hid (fstI_miss (n := n) (p := mtB n U a b) (fun j hj => hN.out j (by omega)))
      go_wp2
      go_ret
      exact ⟨ret_int HR.out.symm, rfl⟩
end Go.Proofs.Ytefnbjkmmmdagaa
