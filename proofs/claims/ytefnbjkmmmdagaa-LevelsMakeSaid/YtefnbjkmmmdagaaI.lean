/- PROVED here: the contracts of has, Len, Below, all, Bottom, Top and Place. No condition but those in each theorem's own head. -/
import Derived.Test.YtefnbjkmmmdagaaH
namespace Go.Proofs.Ytefnbjkmmmdagaa
open Go Go.RowKit

theorem latc_0 (v1 v2 v3 : Value) (dn : Nat) (f : Nat → Int) : (latc v1 v2 v3 dn f)[0]? = some v1 := by simp [latc]
theorem latc_1 (v1 v2 v3 : Value) (dn : Nat) (f : Nat → Int) : (latc v1 v2 v3 dn f)[1]? = some v2 := by simp [latc]
theorem latc_2 (v1 v2 v3 : Value) (dn : Nat) (f : Nat → Int) : (latc v1 v2 v3 dn f)[2]? = some v3 := by simp [latc]
theorem latc_3 (v1 v2 v3 : Value) (dn : Nat) (f : Nat → Int) : (latc v1 v2 v3 dn f)[3]? = some (.int .u32 (dn : Int)) := by simp [latc]
theorem latc_4 (v1 v2 v3 : Value) (dn : Nat) (f : Nat → Int) : (latc v1 v2 v3 dn f)[4]? = some (.int .i32 0) := by simp [latc]
theorem latc_t (v1 v2 v3 : Value) (dn : Nat) (f : Nat → Int) (i : Nat) (hi : i < 512) : (latc v1 v2 v3 dn f)[6 + i]? = some (.int .i64 (f i)) := by
  unfold latc
  rw [Array.getElem?_append_right (by simp)]
  simp [hi]
section
variable {w : World} {g : Nat} {l : List ByteArray} {u d : Nat → Nat} {dn : Nat} {f : Nat → Int}
theorem LatD.names (h : LatD w g l u d dn f) : ∃ A c, w.cell? ⟨g, 0, none⟩ = some (.slice A l.length c) ∧ Strs w A l := by
  obtain ⟨A, c, gu, gd, h1, h2, _, _⟩ := h
  exact ⟨A, c, (cell_of_row w g 0 _ 73 (0, 0) h1).trans (latc_0 _ _ _ _ _), h2⟩
theorem LatD.up (h : LatD w g l u d dn f) : ∃ gu, w.cell? ⟨g, 1, none⟩ = some (.slice (some ⟨gu, 0, none⟩) l.length l.length) ∧ Mb w gu l.length u := by
  obtain ⟨A, c, gu, gd, h1, _, h3, _⟩ := h
  exact ⟨gu, (cell_of_row w g 1 _ 73 (0, 0) h1).trans (latc_1 _ _ _ _ _), h3⟩
theorem LatD.down (h : LatD w g l u d dn f) : ∃ gd, w.cell? ⟨g, 2, none⟩ = some (.slice (some ⟨gd, 0, none⟩) l.length l.length) ∧ Mb w gd l.length d := by
  obtain ⟨A, c, gu, gd, h1, _, _, h4⟩ := h
  exact ⟨gd, (cell_of_row w g 2 _ 73 (0, 0) h1).trans (latc_2 _ _ _ _ _), h4⟩
end
theorem Lat.drewN {w : World} {g : Nat} {l : List ByteArray} {u d : Nat → Nat} (h : Lat w g l u d) (k : Nat) : Lat (w.drewN k) g l u d := h
/-- is a number a place -/
def hasB (n : Nat) (x : Int) : Bool := decide (0 ≤ x) && decide (x < (n : Int))
theorem has_any (g n : Nat) (A : Option Addr) (c : Nat) (x : Int) (w : World) (hc : w.cell? ⟨g, 0, none⟩ = some (.slice A n c)) :
    Calls Try.prog 46 #[.pointer (some ⟨g, 0, none⟩), .int .i64 x] w fun e w' => e = .returned (.bool (hasB n x)) ∧ w = w' := by
  by_cases h0 : 0 ≤ x
  · by_cases h1 : x < (n : Int)
    · have hb : hasB n x = true := by unfold hasB; rw [decide_eq_true h0, decide_eq_true h1]; rfl
      rw [hb]; clear hb
      go_enter Try.func46, Try.ntmps46
      go_wp2
      go_ret
      exact ⟨rfl, rfl⟩
    · have hb : hasB n x = false := by unfold hasB; rw [decide_eq_true h0, decide_eq_false h1]; rfl
      rw [hb]; clear hb
      go_enter Try.func46, Try.ntmps46
      go_wp2
      go_ret
      exact ⟨by simp, rfl⟩
  · have hb : hasB n x = false := by unfold hasB; rw [decide_eq_false h0]; rfl
    rw [hb]; clear hb
    go_enter Try.func46, Try.ntmps46
    go_wp2
    go_ret
    exact ⟨by simp, rfl⟩
theorem len_any (g : Nat) (l : List ByteArray) (u d : Nat → Nat) (w : World) (hL : Lat w g l u d) :
    Calls Try.prog 20 #[.pointer (some ⟨g, 0, none⟩)] w fun e w' => e = .returned (.int .i64 (l.length : Int)) ∧ w = w' := by
  obtain ⟨dn, f, hD, _⟩ := hL
  obtain ⟨A, c, hc, _⟩ := hD.names
  clear hD
  go_enter Try.func20, Try.ntmps20
  go_wp2
  go_ret
  exact ⟨rfl, rfl⟩
set_option maxRecDepth 100000 in
set_option maxHeartbeats 4000000 in
theorem below_in (g : Nat) (l : List ByteArray) (u d : Nat → Nat) (a b : Nat) (w : World) (hn : l.length ≤ 16) (hf : Fit l.length u) (ha : a < l.length) (hb : b < l.length) (hL : Lat w g l u d) :
    Calls Try.prog 14 #[.pointer (some ⟨g, 0, none⟩), .int .i64 (a : Int), .int .i64 (b : Int)] w fun e w' => e = .returned (.bool ((u a).testBit b)) ∧ ∃ k, w' = w.drewN k := by
  obtain ⟨dn, f, hD, _⟩ := hL
  obtain ⟨A, c, hc, _⟩ := hD.names
  obtain ⟨gu, hcu, hM⟩ := hD.up
  have hca := hM.cell ha
  have haz : (a : Int) < (l.length : Int) := by omega
  have h1 := fun k => has_any g l.length A c (a : Int) (w.drewN k) hc
  have h2 := fun k => has_any g l.length A c (b : Int) (w.drewN k) hc
  rw [show hasB l.length (a : Int) = true by unfold hasB; rw [decide_eq_true (by omega), decide_eq_true (by omega)]; rfl] at h1
  rw [show hasB l.length (b : Int) = true by unfold hasB; rw [decide_eq_true (by omega), decide_eq_true (by omega)]; rfl] at h2
  have H1 := Lib.hid h1
  have H2 := Lib.hid h2
  have HB := Lib.hid (fun k => bit_any b (by omega) (w.drewN k))
  have HT := Lib.hid (test_nat (hf.lt16 hn ha) (k := b) (by omega))
  clear h1 h2 hD hM
  generalize (2 ^ b : Nat) = p at *
  generalize u a = x at *
  go_enter Try.func14, Try.ntmps14
  go_wp2_with fail
  go_quiet ((first | (go_at_call_of 46 (Value.int IntKind.i64 (a : Int)); exact quiet_left (H1.out _)) | (go_at_call 46; exact quiet_left (H2.out _)) | (go_at_call 36; exact quiet_left (HB.out _))))
  go_wp2
  go_ret
  exact ⟨ret_bool HT.out, nq, rfl⟩
theorem all_any (g : Nat) (l : List ByteArray) (u d : Nat → Nat) (w : World) (h0 : 0 < l.length) (hn : l.length ≤ 16) (hL : Lat w g l u d) :
    Calls Try.prog 50 #[.pointer (some ⟨g, 0, none⟩)] w fun e w' => e = .returned (.int .u32 ((2 ^ l.length - 1 : Nat) : Int)) ∧ w = w' := by
  obtain ⟨dn, f, hD, _⟩ := hL
  obtain ⟨A, c, hc, _⟩ := hD.names
  have HB := Lib.hid (fun w => bit_any l.length (by omega) w)
  have hp1 : 1 ≤ 2 ^ l.length := Nat.one_le_two_pow
  have hp2 : 2 ^ l.length ≤ 65536 := by
    have : (2 : Nat) ^ l.length ≤ 2 ^ 16 := Nat.pow_le_pow_right (by omega) hn
    simpa using this
  clear hD
  generalize (2 ^ l.length : Nat) = p at *
  have hs : IntKind.u32.wrap ((p : Int) - 1) = ((p - 1 : Nat) : Int) := by rw [IntKind.wrap_u32]; omega
  go_enter Try.func50, Try.ntmps50
  go_wp2_with (go_at_call 36; refine (HB.out _).mono ?_; rintro e w' ⟨rfl, rfl⟩)
  go_ret
  exact ⟨ret_int (by omega), rfl⟩
set_option maxRecDepth 100000 in
set_option maxHeartbeats 4000000 in
theorem bottom_core (g : Nat) (l : List ByteArray) (u d : Nat → Nat) (r : Int) (w : World) (h0 : 0 < l.length) (hn : l.length ≤ 16) (H : Hid (idxM l.length u (2 ^ l.length - 1) = r)) (hL : Lat w g l u d) :
    Calls Try.prog 25 #[.pointer (some ⟨g, 0, none⟩)] w fun e w' => e = .returned (.int .i64 r) ∧ ∃ k, w' = w.drewN k := by
  have HA := Lib.hid (fun k => all_any g l u d (w.drewN k) h0 hn hL)
  obtain ⟨dn, f, hD, _⟩ := hL
  obtain ⟨gu, hcu, hM⟩ := hD.up
  have HI := Lib.hid (fun k => indexM_core gu l.length l.length l.length u (2 ^ l.length - 1) r (Nat.le_refl _) H (w.drewN k) hn hM)
  clear hD hM H
  generalize (2 ^ l.length - 1 : Nat) = p at *
  go_enter Try.func25, Try.ntmps25
  go_wp2_with fail
  go_quiet ((first | (go_at_call 50; exact quiet_left (HA.out _)) | (go_at_call 49; exact quiet_left (HI.out _))))
  go_wp2
  go_ret
  exact ⟨rfl, nq, rfl⟩
set_option maxRecDepth 100000 in
set_option maxHeartbeats 4000000 in
theorem top_core (g : Nat) (l : List ByteArray) (u d : Nat → Nat) (r : Int) (w : World) (h0 : 0 < l.length) (hn : l.length ≤ 16) (H : Hid (idxM l.length d (2 ^ l.length - 1) = r)) (hL : Lat w g l u d) :
    Calls Try.prog 27 #[.pointer (some ⟨g, 0, none⟩)] w fun e w' => e = .returned (.int .i64 r) ∧ ∃ k, w' = w.drewN k := by
  have HA := Lib.hid (fun k => all_any g l u d (w.drewN k) h0 hn hL)
  obtain ⟨dn, f, hD, _⟩ := hL
  obtain ⟨gu, hcu, hM⟩ := hD.down
  have HI := Lib.hid (fun k => indexM_core gu l.length l.length l.length d (2 ^ l.length - 1) r (Nat.le_refl _) H (w.drewN k) hn hM)
  clear hD hM H
  generalize (2 ^ l.length - 1 : Nat) = p at *
  go_enter Try.func27, Try.ntmps27
  go_wp2_with fail
  go_quiet ((first | (go_at_call 50; exact quiet_left (HA.out _)) | (go_at_call 49; exact quiet_left (HI.out _))))
  go_wp2
  go_ret
  exact ⟨rfl, nq, rfl⟩
theorem place_any (g : Nat) (l : List ByteArray) (u d : Nat → Nat) (s : ByteArray) (w : World) (hn : l.length ≤ 16) (hL : Lat w g l u d) :
    Calls Try.prog 23 #[.pointer (some ⟨g, 0, none⟩), .string s] w fun e w' => e = .returned (.int .i64 (idxO l s)) ∧ w = w' := by
  obtain ⟨dn, f, hD, _⟩ := hL
  obtain ⟨A, c, hc, hS⟩ := hD.names
  have HI := Lib.hid (fun w h => index_str A c l s w (by omega) h)
  have HS := Lib.hid hS
  clear hD hS
  generalize idxO l s = r at *
  go_enter Try.func23, Try.ntmps23
  go_wp2_with (go_at_call 35; refine (HI.out _ HS.out).mono ?_; rintro e w' ⟨rfl, rfl⟩)
  go_ret
  exact ⟨rfl, rfl⟩
end Go.Proofs.Ytefnbjkmmmdagaa
