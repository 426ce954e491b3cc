/- PROVED here: the document's lattice in memory; contracts of its Place, Below, Join and Meet. No condition but those in each theorem's own head. -/
import Derived.Test.YtefnbjkmmmdagaaB
namespace Go.Proofs.Ytefnbjkmmmdagaa
open Go Go.RowKit

/-- the document's lattice: its names, and which place is below which -/
def RLat (w : World) (g : Nat) (l : List ByteArray) (U : Nat → Nat → Bool) : Prop :=
  ∃ (A : Option Addr) (c r cr : Nat) (R : Nat → Nat), w.cell? ⟨g, 0, none⟩ = some (.slice A l.length c) ∧ Strs w A l ∧ w.cell? ⟨g, 1, none⟩ = some (.slice (some ⟨r, 0, none⟩) l.length cr) ∧
    (∀ i, i < l.length → w.cell? ⟨r, i, none⟩ = some (.slice (some ⟨R i, 0, none⟩) l.length l.length)) ∧ ∀ i j, i < l.length → j < l.length → w.cell? ⟨R i, j, none⟩ = some (.bool (U i j))
theorem RLat.below {w w' : World} {g : Nat} {l : List ByteArray} {U : Nat → Nat → Bool} (h : RLat w g l U) (hb : Below w.heap.size w w') : RLat w' g l U := by
  obtain ⟨A, c, r, cr, R, h1, h2, h3, h4, h5⟩ := h
  have k : ∀ b o v, w.cell? ⟨b, o, none⟩ = some v → w'.cell? ⟨b, o, none⟩ = some v := fun b o v hv => (hb.cell (p := ⟨b, o, none⟩) (World.block_lt_of_cell? w _ hv)).trans hv
  exact ⟨A, c, r, cr, R, k _ _ _ h1, h2.below hb, k _ _ _ h3, fun i hi => k _ _ _ (h4 i hi), fun i j hi hj => k _ _ _ (h5 i j hi hj)⟩
theorem RLat.drew {w : World} {g : Nat} {l : List ByteArray} {U : Nat → Nat → Bool} (h : RLat w g l U) (n : Nat) : RLat (w.drewN n) g l U := h.below (below_drewN (Below.refl _ _) n)
set_option maxRecDepth 100000 in
set_option maxHeartbeats 1500000 in
theorem rplace_core (g : Nat) (l : List ByteArray) (U : Nat → Nat → Bool) (s : ByteArray) (r : Int) (H : Hid (idxO l s = r)) (w : World) (hl : l.length ≤ 1000) (hL : RLat w g l U) :
    Calls Try.prog 24 #[.pointer (some ⟨g, 0, none⟩), .string s] w fun e w' => e = .returned (.int .i64 r) ∧ w = w' := by
  obtain ⟨A, c, r0, cr, R, h1, h2, _, _, _⟩ := hL
  have HA := Lib.hid h2
  clear h2
  go_enter Try.func24, Try.ntmps24
  go_wp2
  go_loop [5] (fun i => ∃ k : Nat, k ≤ l.length ∧ i = .int .i64 (k : Int) ∧ Hid (∀ j (hj : j < l.length), j < k → l[j] ≠ s)) (fun i => l.length - (intOf i).toNat)
  case atStart => exact ⟨0, Nat.zero_le _, rfl, Lib.hid (fun j hj h => by omega)⟩
  case round =>
    obtain ⟨k, hk, rfl, hN⟩ := hrel
    by_cases hlt : k < l.length
    · have hlz : (k : Int) < (l.length : Int) := by omega
      obtain ⟨b, off, rfl, hb, hc⟩ := HA.out (by omega)
      have c0 := hc k hlt
      clear hc
      by_cases he : l[k] = s
      · have hq : (l[k].toList == s.toList) = true := by rw [he]; exact beq_iff_eq.2 rfl
        have HR := Lib.hid (show r = (k : Int) by rw [← H.out]; exact idxO_hit hlt he hN.out)
        clear he
        go_wp2
        go_ret
        exact ⟨ret_int HR.out.symm, rfl⟩
      · have hq : (l[k].toList == s.toList) = false := by
          rw [str_eq]; exact decide_eq_false (fun h => he h.symm)
        have HN := Lib.hid (show ∀ j (hj : j < l.length), j < k + 1 → l[j] ≠ s from fun j hj h => by
          by_cases e : j = k
          · subst e; exact he
          · exact hN.out j hj (by omega))
        clear he
        go_wp2
        go_round
        case rel => exact ⟨k + 1, by omega, by go_num, HN⟩
        case measure => simp [intOf]; omega
    · have hlz : ¬ (k : Int) < (l.length : Int) := by omega
      have HR := Lib.hid (show r = -1 by rw [← H.out]; exact idxO_miss (fun j hj => hN.out j hj (by omega)))
      go_wp2
      go_ret
      exact ⟨ret_int HR.out.symm, rfl⟩
theorem rplace_any (g : Nat) (l : List ByteArray) (U : Nat → Nat → Bool) (s : ByteArray) (w : World) (hl : l.length ≤ 1000) (hL : RLat w g l U) :
    Calls Try.prog 24 #[.pointer (some ⟨g, 0, none⟩), .string s] w fun e w' => e = .returned (.int .i64 (idxO l s)) ∧ w = w' := rplace_core g l U s _ (Lib.hid rfl) w hl hL
/-- is one place below another one -/
def beB (n : Nat) (U : Nat → Nat → Bool) (a b : Int) : Bool := decide (0 ≤ a ∧ 0 ≤ b ∧ a < (n : Int) ∧ b < (n : Int)) && U a.toNat b.toNat
set_option maxRecDepth 100000 in
set_option maxHeartbeats 1500000 in
theorem rbelow_any (g : Nat) (l : List ByteArray) (U : Nat → Nat → Bool) (a b : Int) (w : World) (hL : RLat w g l U) :
    Calls Try.prog 15 #[.pointer (some ⟨g, 0, none⟩), .int .i64 a, .int .i64 b] w fun e w' => e = .returned (.bool (beB l.length U a b)) ∧ w = w' := by
  obtain ⟨A, c, r0, cr, R, h1, _, h3, h4, h5⟩ := hL
  have H4 := Lib.hid h4
  have H5 := Lib.hid h5
  clear h4 h5
  obtain ⟨n, hn⟩ : ∃ n, n = l.length := ⟨_, rfl⟩
  rw [← hn] at h1 h3 H4 H5 ⊢
  clear hn
  by_cases h : 0 ≤ a ∧ 0 ≤ b ∧ a < (n : Int) ∧ b < (n : Int)
  · obtain ⟨a', rfl⟩ : ∃ a' : Nat, a = a' := ⟨a.toNat, by omega⟩
    obtain ⟨b', rfl⟩ : ∃ b' : Nat, b = b' := ⟨b.toNat, by omega⟩
    have e : beB n U (a' : Int) (b' : Int) = U a' b' := by unfold beB; rw [decide_eq_true h]; simp
    rw [e]
    obtain ⟨g1, g2, g3, g4⟩ := h
    have c4 := H4.out a' (by omega)
    have c5 := H5.out a' b' (by omega) (by omega)
    have k1 : a' < n := by omega
    have k2 : b' < n := by omega
    generalize U a' b' = u at *
    clear e
    go_enter Try.func15, Try.ntmps15
    go_wp2
    go_ret
    exact ⟨rfl, rfl⟩
  · have e : beB n U a b = false := by unfold beB; rw [decide_eq_false h]; rfl
    rw [e]
    clear e
    by_cases g1 : 0 ≤ a
    · by_cases g2 : 0 ≤ b
      · by_cases g3 : a < (n : Int)
        · have g4 : ¬ b < (n : Int) := fun g4 => h ⟨g1, g2, g3, g4⟩
          clear h
          go_enter Try.func15, Try.ntmps15
          go_wp2
          go_ret
          simp
        · clear h
          go_enter Try.func15, Try.ntmps15
          go_wp2
          go_ret
          simp
      · clear h
        go_enter Try.func15, Try.ntmps15
        go_wp2
        go_ret
        simp
    · clear h
      go_enter Try.func15, Try.ntmps15
      go_wp2
      go_ret
      simp
end Go.Proofs.Ytefnbjkmmmdagaa
