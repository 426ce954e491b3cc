/- PROVED here: contracts of the document's Bottom and Top. No condition but those in each theorem's own head. -/
import Derived.Test.YtefnbjkmmmdagaaMc
namespace Go.Proofs.Ytefnbjkmmmdagaa
open Go Go.RowKit

/-- from 0 on, with 1, 2, .. in turn -/
def fldI (f : Int → Nat → Int) : Nat → Int
  | 0 => 0
  | k + 1 => if k = 0 then 0 else f (fldI f k) k
theorem fldI_snoc {f : Int → Nat → Int} {k : Nat} {x : Int} (hk : 1 ≤ k) (h : x = fldI f k) : f x k = fldI f (k + 1) := by
  show _ = if k = 0 then 0 else f (fldI f k) k
  rw [if_neg (by omega), h]
set_option maxRecDepth 100000 in
set_option maxHeartbeats 1500000 in
theorem rbottom_any (g : Nat) (l : List ByteArray) (U : Nat → Nat → Bool) (w : World) (h0 : 0 < l.length) (hl : l.length ≤ 1000) (hL : RLat w g l U) :
    Calls Try.prog 26 #[.pointer (some ⟨g, 0, none⟩)] w fun e w' => e = .returned (.int .i64 (fldI (fun a k => fstI l.length (mtB l.length U a (k : Int))) l.length)) ∧ w = w' := by
  have HJ := Lib.hid (fun a b => rmeet_any g l U a b w hl hL)
  obtain ⟨A, cA, _, _, _, h1, _, _, _, _⟩ := hL
  obtain ⟨n, hn⟩ : ∃ n, n = l.length := ⟨_, rfl⟩
  rw [← hn] at h0 h1 hl HJ ⊢
  clear hn
  go_enter Try.func26, Try.ntmps26
  go_wp2_with (fail)
  go_loop [3, 4] (fun v i => ∃ k : Nat, 1 ≤ k ∧ k ≤ n ∧ i = .int .i64 (k : Int) ∧ ∃ x : Int, v = .int .i64 x ∧ Hid (x = fldI (fun a k => fstI n (mtB n U a (k : Int))) k)) (fun _ i => n - (intOf i).toNat)
  case atStart => exact ⟨1, Nat.le_refl _, h0, rfl, 0, rfl, Lib.hid rfl⟩
  case round =>
    obtain ⟨k, hk1, hk, rfl, x, rfl, HX⟩ := hrel
    by_cases hlt : k < n
    · have hlz : (k : Int) < (n : Int) := by omega
      have HN := Lib.hid (show fstI n (mtB n U x (k : Int)) = fldI (fun a k => fstI n (mtB n U a (k : Int))) (k + 1) from fldI_snoc (f := fun a k => fstI n (mtB n U a (k : Int))) hk1 HX.out)
      have HC := Lib.hid (HJ.out x (k : Int))
      generalize fstI n (mtB n U x (k : Int)) = y at *
      go_wp2_with (go_at_call 19; refine HC.out.mono ?_; rintro e w' ⟨rfl, rfl⟩)
      go_round
      case rel => exact ⟨k + 1, by omega, by omega, by go_num, y, rfl, HN⟩
      case measure => simp [intOf]; omega
    · have hlz : ¬ (k : Int) < (n : Int) := by omega
      have hkn : k = n := by omega
      have HR := Lib.hid (hkn ▸ HX.out)
      clear hkn
      go_wp2
      go_ret
      exact ⟨ret_int HR.out, rfl⟩
set_option maxRecDepth 100000 in
set_option maxHeartbeats 1500000 in
theorem rtop_any (g : Nat) (l : List ByteArray) (U : Nat → Nat → Bool) (w : World) (h0 : 0 < l.length) (hl : l.length ≤ 1000) (hL : RLat w g l U) :
    Calls Try.prog 28 #[.pointer (some ⟨g, 0, none⟩)] w fun e w' => e = .returned (.int .i64 (fldI (fun a k => fstI l.length (jnB l.length U a (k : Int))) l.length)) ∧ w = w' := by
  have HJ := Lib.hid (fun a b => rjoin_any g l U a b w hl hL)
  obtain ⟨A, cA, _, _, _, h1, _, _, _, _⟩ := hL
  obtain ⟨n, hn⟩ : ∃ n, n = l.length := ⟨_, rfl⟩
  rw [← hn] at h0 h1 hl HJ ⊢
  clear hn
  go_enter Try.func28, Try.ntmps28
  go_wp2_with (fail)
  go_loop [3, 4] (fun v i => ∃ k : Nat, 1 ≤ k ∧ k ≤ n ∧ i = .int .i64 (k : Int) ∧ ∃ x : Int, v = .int .i64 x ∧ Hid (x = fldI (fun a k => fstI n (jnB n U a (k : Int))) k)) (fun _ i => n - (intOf i).toNat)
  case atStart => exact ⟨1, Nat.le_refl _, h0, rfl, 0, rfl, Lib.hid rfl⟩
  case round =>
    obtain ⟨k, hk1, hk, rfl, x, rfl, HX⟩ := hrel
    by_cases hlt : k < n
    · have hlz : (k : Int) < (n : Int) := by omega
      have HN := Lib.hid (show fstI n (jnB n U x (k : Int)) = fldI (fun a k => fstI n (jnB n U a (k : Int))) (k + 1) from fldI_snoc (f := fun a k => fstI n (jnB n U a (k : Int))) hk1 HX.out)
      have HC := Lib.hid (HJ.out x (k : Int))
      generalize fstI n (jnB n U x (k : Int)) = y at *
      go_wp2_with (go_at_call 17; refine HC.out.mono ?_; rintro e w' ⟨rfl, rfl⟩)
      go_round
      case rel => exact ⟨k + 1, by omega, by omega, by go_num, y, rfl, HN⟩
      case measure => simp [intOf]; omega
    · have hlz : ¬ (k : Int) < (n : Int) := by omega
      have hkn : k = n := by omega
      have HR := Lib.hid (hkn ▸ HX.out)
      clear hkn
      go_wp2
      go_ret
      exact ⟨ret_int HR.out, rfl⟩
end Go.Proofs.Ytefnbjkmmmdagaa
