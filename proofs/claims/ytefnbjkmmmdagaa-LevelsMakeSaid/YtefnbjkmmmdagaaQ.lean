/- PROVED here: what it means that New takes names and pairs; the contract of shown. No condition but those in each theorem's own head. -/
import Derived.Test.YtefnbjkmmmdagaaP
namespace Go.Proofs.Ytefnbjkmmmdagaa
open Go Go.RowKit

theorem anti_dist {n : Nat} {m : Nat → Nat} (h : antiB n m = true) : Dist n m := fun a b ha hb e => by
  unfold antiB at h
  rw [List.all_eq_true] at h
  rcases Nat.lt_trichotomy a b with hl | hl | hl
  · have := List.all_eq_true.1 (h b (by simpa using hb)) a (by simpa using hl)
    rw [bne_iff_ne] at this; exact absurd e this
  · exact hl
  · have := List.all_eq_true.1 (h a (by simpa using ha)) b (by simpa using hl)
    rw [bne_iff_ne] at this; exact absurd e.symm this
theorem bnd_bnd {n : Nat} {m : Nat → Nat} (h : bndB n m = true) : Bnd n m := fun a b ha hb => by
  unfold bndB at h
  rw [List.all_eq_true] at h
  have key : ∀ a b, a < n → b < a → ∃ c, c < n ∧ m c = m a &&& m b := fun a b ha hl => by
    have := of_decide_eq_true (List.all_eq_true.1 (h a (by simpa using ha)) b (by simpa using hl))
    unfold bd at this
    rcases idxM_spec n m (m a &&& m b) with ⟨h1, _⟩ | ⟨i, hi, _, h2, _⟩
    · omega
    · exact ⟨i, hi, h2⟩
  rcases Nat.lt_trichotomy a b with hl | hl | hl
  · obtain ⟨c, hc, e⟩ := key b a hb hl
    exact ⟨c, hc, by rw [e, Nat.and_comm]⟩
  · subst hl; exact ⟨a, ha, by rw [Nat.and_self]⟩
  · exact key a b ha hl
/-- a lattice: an order, whose masks differ, and any two have bounds -/
structure Latt (n : Nat) (u d : Nat → Nat) : Prop extends Ord n u d where
  pos : 0 < n
  le16 : n ≤ 16
  dist : Dist n u
  joins : Bnd n u
  meets : Bnd n d
theorem new_latt {l : List ByteArray} {ps : List (ByteArray × ByteArray)} (h : newE l ps = 0) : Latt l.length (uOf l ps) (dOf l ps) ∧ errN l = 0 ∧ ∀ p ∈ ps, okP l p = true := by
  unfold newE at h
  by_cases h1 : errN l ≠ 0
  · rw [if_pos h1] at h; exact absurd h h1
  · rw [if_neg h1] at h
    have h1' : errN l = 0 := by omega
    by_cases h2 : ps.all (okP l) = false
    · rw [if_pos h2] at h; cases h
    · rw [if_neg h2] at h
      by_cases h3 : (antiB l.length (uOf l ps) && (bndB l.length (uOf l ps) && bndB l.length (dOf l ps))) = true
      · rw [Bool.and_eq_true, Bool.and_eq_true] at h3
        rw [Bool.not_eq_false, List.all_eq_true] at h2
        obtain ⟨p, q, _, _⟩ := errN_zero h1'
        obtain ⟨f1, f2, f3, f4⟩ := rel_ok l ps h2
        exact ⟨⟨ord_clo f1 f2 f3 f4, p, q, anti_dist h3.1, bnd_bnd h3.2.1, bnd_bnd h3.2.2⟩, h1', h2⟩
      · rw [if_neg h3] at h; cases h
theorem ex1_call (w : World) : Calls Try.prog 10 #[.slice (some ⟨w.heap.size, 0, none⟩) 4 4, .slice (some ⟨w.heap.size + 1, 0, none⟩) 4 4] ((w.alloc (.cells #[.string ⟨#[108, 111, 119]⟩, .string ⟨#[97]⟩, .string ⟨#[98]⟩, .string ⟨#[104, 105, 103, 104]⟩] 9)).alloc (.cells #[.string ⟨#[108, 111, 119]⟩, .string ⟨#[97]⟩, .string ⟨#[108, 111, 119]⟩, .string ⟨#[98]⟩, .string ⟨#[97]⟩, .string ⟨#[104, 105, 103, 104]⟩, .string ⟨#[98]⟩, .string ⟨#[104, 105, 103, 104]⟩] 45)) (OkPost ex1L ex1P w) :=
  (new_lit ex1L ex1P (by decide) (by decide) (by decide +kernel) w).mono fun _ _ h => new_ok h ex1_ok
theorem ex2_call (w : World) : Calls Try.prog 10 #[.slice (some ⟨w.heap.size, 0, none⟩) 3 3, .slice (some ⟨w.heap.size + 1, 0, none⟩) 2 2] ((w.alloc (.cells #[.string ⟨#[108, 111, 119]⟩, .string ⟨#[97]⟩, .string ⟨#[98]⟩] 9)).alloc (.cells #[.string ⟨#[108, 111, 119]⟩, .string ⟨#[97]⟩, .string ⟨#[108, 111, 119]⟩, .string ⟨#[98]⟩] 45)) fun e w' => e = .returned (.tuple #[.pointer none, .int .i64 9]) ∧ Below w.heap.size w w' :=
  (new_lit ex2L ex2P (by decide) (by decide) (by decide +kernel) w).mono fun _ _ h => new_bad h ex2_no (by decide)
theorem ex3_call (w : World) : Calls Try.prog 10 #[.slice (some ⟨w.heap.size, 0, none⟩) 2 2, .slice (some ⟨w.heap.size + 1, 0, none⟩) 2 2] ((w.alloc (.cells #[.string ⟨#[120]⟩, .string ⟨#[121]⟩] 9)).alloc (.cells #[.string ⟨#[120]⟩, .string ⟨#[121]⟩, .string ⟨#[121]⟩, .string ⟨#[120]⟩] 45)) fun e w' => e = .returned (.tuple #[.pointer none, .int .i64 9]) ∧ Below w.heap.size w w' :=
  (new_lit ex3L ex3P (by decide) (by decide) (by decide +kernel) w).mono fun _ _ h => new_bad h ex3_no (by decide)
theorem Lat.below {w w' : World} {g : Nat} {l : List ByteArray} {u d : Nat → Nat} (h : Lat w g l u d) (hb : Below w.heap.size w w') : Lat w' g l u d := by
  obtain ⟨dn, f, ⟨A, c, gu, gd, h1, h2, h3, h4⟩, h5⟩ := h
  exact ⟨dn, f, ⟨A, c, gu, gd, (hb.block g (Array.getElem?_eq_some_iff.1 h1).1).trans h1, h2.below hb, h3.below hb h3.lt, h4.below hb h4.lt⟩, h5⟩
/-- worlds in which nothing old has turned, and a lattice lies in a block -/
def LW (w0 : World) (g : Nat) (l : List ByteArray) (u d : Nat → Nat) (w : World) : Prop := w0.heap.size ≤ g ∧ Below w0.heap.size w0 w ∧ Lat w g l u d
section
variable {w0 w : World} {g : Nat} {l : List ByteArray} {u d : Nat → Nat}
theorem LW.post (h : LW w0 g l u d w) {v : Value} {e : Ending} {w' : World} (hp : LPost g l u d v w e w') : e = .returned v ∧ LW w0 g l u d w' :=
  ⟨hp.1, h.1, h.2.1.grown hp.2.2 h.2.1.size (fun q hq => by injection hq with hq; have := h.1; omega), hp.2.1⟩
theorem LW.drewN (h : LW w0 g l u d w) (k : Nat) : LW w0 g l u d (w.drewN k) := ⟨h.1, below_drewN h.2.1 k, h.2.2.drewN k⟩
variable (hL : Latt l.length u d)
include hL
theorem lw_join (h : LW w0 g l u d w) {a b : Nat} (ha : a < l.length) (hb : b < l.length) {r : Int} (hr : bd l.length u a b = r) :
    Calls Try.prog 16 #[.pointer (some ⟨g, 0, none⟩), .int .i64 (a : Int), .int .i64 (b : Int)] w fun e w' => e = .returned (.int .i64 r) ∧ LW w0 g l u d w' :=
  (join_core g l u d a b r (Lib.hid hr) w hL.le16 hL.fitU hL.fitD ha hb h.2.2).mono fun _ _ hp => h.post hp
theorem lw_meet (h : LW w0 g l u d w) {a b : Nat} (ha : a < l.length) (hb : b < l.length) {r : Int} (hr : bd l.length d a b = r) :
    Calls Try.prog 18 #[.pointer (some ⟨g, 0, none⟩), .int .i64 (a : Int), .int .i64 (b : Int)] w fun e w' => e = .returned (.int .i64 r) ∧ LW w0 g l u d w' :=
  (meet_core g l u d a b r (Lib.hid hr) w hL.le16 hL.fitU hL.fitD ha hb h.2.2).mono fun _ _ hp => h.post hp
theorem lw_below (h : LW w0 g l u d w) {a b : Nat} (ha : a < l.length) (hb : b < l.length) {r : Bool} (hr : (u a).testBit b = r) :
    Calls Try.prog 14 #[.pointer (some ⟨g, 0, none⟩), .int .i64 (a : Int), .int .i64 (b : Int)] w fun e w' => e = .returned (.bool r) ∧ LW w0 g l u d w' :=
  (below_in g l u d a b w hL.le16 hL.fitU ha hb h.2.2).mono fun _ _ ⟨he, k, hk⟩ => ⟨by rw [he, hr], by rw [hk]; exact h.drewN k⟩
theorem lw_bottom (h : LW w0 g l u d w) {r : Int} (hr : idxM l.length u (2 ^ l.length - 1) = r) :
    Calls Try.prog 25 #[.pointer (some ⟨g, 0, none⟩)] w fun e w' => e = .returned (.int .i64 r) ∧ LW w0 g l u d w' :=
  (bottom_core g l u d r w hL.pos hL.le16 (Lib.hid hr) h.2.2).mono fun _ _ ⟨he, k, hk⟩ => ⟨he, by rw [hk]; exact h.drewN k⟩
theorem lw_top (h : LW w0 g l u d w) {r : Int} (hr : idxM l.length d (2 ^ l.length - 1) = r) :
    Calls Try.prog 27 #[.pointer (some ⟨g, 0, none⟩)] w fun e w' => e = .returned (.int .i64 r) ∧ LW w0 g l u d w' :=
  (top_core g l u d r w hL.pos hL.le16 (Lib.hid hr) h.2.2).mono fun _ _ ⟨he, k, hk⟩ => ⟨he, by rw [hk]; exact h.drewN k⟩
omit hL in
theorem lw_len (h : LW w0 g l u d w) : Calls Try.prog 20 #[.pointer (some ⟨g, 0, none⟩)] w fun e w' => e = .returned (.int .i64 (l.length : Int)) ∧ LW w0 g l u d w' :=
  (len_any g l u d w h.2.2).mono fun _ _ ⟨he, hk⟩ => ⟨he, by rw [← hk]; exact h⟩
end
theorem nil26 (a : Addr) (w : World) : (binOp .eql 26 (.pointer (some a)) (.pointer none)).run Try.prog w = .ok (.bool false) w := by kernel_rfl
set_option maxRecDepth 100000 in
set_option maxHeartbeats 4000000 in
theorem shown_any (w : World) : Calls Try.prog 8 #[] w fun e w' => e = .returned (.bool true) ∧ Below w.heap.size w w' := by
  have hL := (new_latt ex1_ok).1
  have J12 := Lib.hid (fun w0 g w (h : LW w0 g ex1L (uOf ex1L ex1P) (dOf ex1L ex1P) w) => (lw_join hL h (a := 1) (b := 2) (by decide) (by decide) ex1_j12 : Calls Try.prog 16 #[.pointer (some ⟨g, 0, none⟩), .int .i64 1, .int .i64 2] w _))
  have M12 := Lib.hid (fun w0 g w (h : LW w0 g ex1L (uOf ex1L ex1P) (dOf ex1L ex1P) w) => (lw_meet hL h (a := 1) (b := 2) (by decide) (by decide) ex1_m12 : Calls Try.prog 18 #[.pointer (some ⟨g, 0, none⟩), .int .i64 1, .int .i64 2] w _))
  have J01 := Lib.hid (fun w0 g w (h : LW w0 g ex1L (uOf ex1L ex1P) (dOf ex1L ex1P) w) => (lw_join hL h (a := 0) (b := 1) (by decide) (by decide) ex1_j01 : Calls Try.prog 16 #[.pointer (some ⟨g, 0, none⟩), .int .i64 0, .int .i64 1] w _))
  have BOT := Lib.hid (fun w0 g w (h : LW w0 g ex1L (uOf ex1L ex1P) (dOf ex1L ex1P) w) => lw_bottom hL h ex1_bot)
  have TOP := Lib.hid (fun w0 g w (h : LW w0 g ex1L (uOf ex1L ex1P) (dOf ex1L ex1P) w) => lw_top hL h ex1_top)
  clear hL
  have hnil := nil26
  go_enter Try.func8, Try.ntmps8
  go_upto_region 2 with (go_at_call 10; refine (ex1_call _).mono ?_; rintro e w1 ⟨g, hg, rfl, hb1, hL1⟩)
  go_upto_region 3 with (go_at_call 10; refine (ex2_call _).mono ?_; rintro e w2 ⟨rfl, hb2⟩)
  go_upto_region 4 with (go_at_call 10; refine (ex3_call _).mono ?_; rintro e w3 ⟨rfl, hb3⟩)
  have h3 : LW w g ex1L (uOf ex1L ex1P) (dOf ex1L ex1P) w3 := ⟨hg, bt hb1 (bt hb2 hb3), hL1.below (bt hb2 hb3)⟩
  clear hb1 hb2 hb3 hL1 hg
  go_wp2_with (first
    | (go_at_call_of 16 (Value.int IntKind.i64 2); refine (J12.out _ _ _ h3).mono ?_; rintro e w4 ⟨rfl, h4⟩)
    | (go_at_call 18; refine (M12.out _ _ _ h4).mono ?_; rintro e w5 ⟨rfl, h5⟩)
    | (go_at_call_of 16 (Value.int IntKind.i64 0); refine (J01.out _ _ _ h5).mono ?_; rintro e w6 ⟨rfl, h6⟩)
    | (go_at_call 25; refine (BOT.out _ _ _ h6).mono ?_; rintro e w7 ⟨rfl, h7⟩)
    | (go_at_call 27; refine (TOP.out _ _ _ h7).mono ?_; rintro e w8 ⟨rfl, h8⟩))
  go_ret
  exact ⟨rfl, h8.2.1⟩
end Go.Proofs.Ytefnbjkmmmdagaa
