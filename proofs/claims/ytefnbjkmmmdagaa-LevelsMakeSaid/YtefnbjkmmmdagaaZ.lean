/- PROVED here: two lattices in one world through the calls; what the reckoned rows give; steps max, min, or, and, sub. No condition but those in each theorem's own head. -/
import Derived.Test.YtefnbjkmmmdagaaW
namespace Go.Proofs.Ytefnbjkmmmdagaa
open Go Go.RowKit
/-- worlds in which nothing old has turned, and two lattices lie in two blocks -/
def L2 (w0 : World) (g g' : Nat) (l : List ByteArray) (u d u' d' : Nat → Nat) (w : World) : Prop := LW w0 g l u d w ∧ LW w0 g' l u' d' w ∧ g ≠ g'
section
variable {w0 w : World} {g g' : Nat} {l : List ByteArray} {u d u' d' : Nat → Nat}
theorem L2.post (h : L2 w0 g g' l u d u' d' w) {v : Value} {e : Ending} {w' : World} (hp : LPost g l u d v w e w') : e = .returned v ∧ L2 w0 g g' l u d u' d' w' :=
  ⟨hp.1, (LW.post h.1 hp).2, ⟨h.2.1.1, (LW.post h.1 hp).2.2.1, lat_keep h.1.2.2 h.2.1.2.2 h.2.2 hp.2.2⟩, h.2.2⟩
theorem L2.post' (h : L2 w0 g g' l u d u' d' w) {v : Value} {e : Ending} {w' : World} (hp : LPost g' l u' d' v w e w') : e = .returned v ∧ L2 w0 g g' l u d u' d' w' :=
  ⟨hp.1, ⟨h.1.1, (LW.post h.2.1 hp).2.2.1, lat_keep h.2.1.2.2 h.1.2.2 (Ne.symm h.2.2) hp.2.2⟩, (LW.post h.2.1 hp).2, h.2.2⟩
theorem L2.drewN (h : L2 w0 g g' l u d u' d' w) (k : Nat) : L2 w0 g g' l u d u' d' (w.drewN k) := ⟨h.1.drewN k, h.2.1.drewN k, h.2.2⟩
theorem l2_join (hL : Latt l.length u d) (h : L2 w0 g g' l u d u' d' w) {a b : Nat} (ha : a < l.length) (hb : b < l.length) {r : Int} (hr : bd l.length u a b = r) :
    Calls Try.prog 16 #[.pointer (some ⟨g, 0, none⟩), .int .i64 (a : Int), .int .i64 (b : Int)] w fun e w' => e = .returned (.int .i64 r) ∧ L2 w0 g g' l u d u' d' w' :=
  (join_core g l u d a b r (Lib.hid hr) w hL.le16 hL.fitU hL.fitD ha hb h.1.2.2).mono fun _ _ hp => h.post hp
theorem l2_meet (hL : Latt l.length u d) (h : L2 w0 g g' l u d u' d' w) {a b : Nat} (ha : a < l.length) (hb : b < l.length) {r : Int} (hr : bd l.length d a b = r) :
    Calls Try.prog 18 #[.pointer (some ⟨g, 0, none⟩), .int .i64 (a : Int), .int .i64 (b : Int)] w fun e w' => e = .returned (.int .i64 r) ∧ L2 w0 g g' l u d u' d' w' :=
  (meet_core g l u d a b r (Lib.hid hr) w hL.le16 hL.fitU hL.fitD ha hb h.1.2.2).mono fun _ _ hp => h.post hp
theorem l2_join' (hL : Latt l.length u' d') (h : L2 w0 g g' l u d u' d' w) {a b : Nat} (ha : a < l.length) (hb : b < l.length) {r : Int} (hr : bd l.length u' a b = r) :
    Calls Try.prog 16 #[.pointer (some ⟨g', 0, none⟩), .int .i64 (a : Int), .int .i64 (b : Int)] w fun e w' => e = .returned (.int .i64 r) ∧ L2 w0 g g' l u d u' d' w' :=
  (join_core g' l u' d' a b r (Lib.hid hr) w hL.le16 hL.fitU hL.fitD ha hb h.2.1.2.2).mono fun _ _ hp => h.post' hp
theorem l2_meet' (hL : Latt l.length u' d') (h : L2 w0 g g' l u d u' d' w) {a b : Nat} (ha : a < l.length) (hb : b < l.length) {r : Int} (hr : bd l.length d' a b = r) :
    Calls Try.prog 18 #[.pointer (some ⟨g', 0, none⟩), .int .i64 (a : Int), .int .i64 (b : Int)] w fun e w' => e = .returned (.int .i64 r) ∧ L2 w0 g g' l u d u' d' w' :=
  (meet_core g' l u' d' a b r (Lib.hid hr) w hL.le16 hL.fitU hL.fitD ha hb h.2.1.2.2).mono fun _ _ hp => h.post' hp
theorem l2_below' (hL : Latt l.length u' d') (h : L2 w0 g g' l u d u' d' w) {a b : Nat} (ha : a < l.length) (hb : b < l.length) {r : Bool} (hr : (u' a).testBit b = r) :
    Calls Try.prog 14 #[.pointer (some ⟨g', 0, none⟩), .int .i64 (a : Int), .int .i64 (b : Int)] w fun e w' => e = .returned (.bool r) ∧ L2 w0 g g' l u d u' d' w' :=
  (below_in g' l u' d' a b w hL.le16 hL.fitU ha hb h.2.1.2.2).mono fun _ _ ⟨he, k, hk⟩ => ⟨by rw [he, hr], by rw [hk]; exact h.drewN k⟩
theorem l2_bottom' (hL : Latt l.length u' d') (h : L2 w0 g g' l u d u' d' w) {r : Int} (hr : idxM l.length u' (2 ^ l.length - 1) = r) :
    Calls Try.prog 25 #[.pointer (some ⟨g', 0, none⟩)] w fun e w' => e = .returned (.int .i64 r) ∧ L2 w0 g g' l u d u' d' w' :=
  (bottom_core g' l u' d' r w hL.pos hL.le16 (Lib.hid hr) h.2.1.2.2).mono fun _ _ ⟨he, k, hk⟩ => ⟨he, by rw [hk]; exact h.drewN k⟩
theorem l2_top (hL : Latt l.length u d) (h : L2 w0 g g' l u d u' d' w) {r : Int} (hr : idxM l.length d (2 ^ l.length - 1) = r) :
    Calls Try.prog 27 #[.pointer (some ⟨g, 0, none⟩)] w fun e w' => e = .returned (.int .i64 r) ∧ L2 w0 g g' l u d u' d' w' :=
  (top_core g l u d r w hL.pos hL.le16 (Lib.hid hr) h.1.2.2).mono fun _ _ ⟨he, k, hk⟩ => ⟨he, by rw [hk]; exact h.drewN k⟩
end
/-- what the reckoning gives -/
theorem rows_facts {k n : Nat} (h : rowsOk k n = true) : idxM n (dOf (nm16.take n) (rowP n)) (2 ^ n - 1) = (n - 1 : Nat) ∧ idxM n (uOf (nm16.take n) (setP k n)) (2 ^ n - 1) = 0 ∧ newE (nm16.take n) (rowP n) = 0 ∧ newE (nm16.take n) (setP k n) = 0 ∧
    ∀ a, a < n → ∀ b, b < n → bd n (uOf (nm16.take n) (rowP n)) a b = (max a b : Nat) ∧ bd n (dOf (nm16.take n) (rowP n)) a b = (min a b : Nat) ∧ bd n (uOf (nm16.take n) (setP k n)) a b = (a ||| b : Nat) ∧ bd n (dOf (nm16.take n) (setP k n)) a b = (a &&& b : Nat) ∧ (uOf (nm16.take n) (setP k n) a).testBit b = (a &&& b == a) := by
  unfold rowsOk at h
  rw [Bool.and_eq_true, Bool.and_eq_true, Bool.and_eq_true, Bool.and_eq_true, decide_eq_true_eq, decide_eq_true_eq, decide_eq_true_eq, decide_eq_true_eq] at h
  obtain ⟨h1, h2, h3, h4, h5⟩ := h
  refine ⟨h1, h2, h3, h4, fun a ha b hb => ?_⟩
  have h6 := List.all_eq_true.mp (List.all_eq_true.mp h5 a (List.mem_range.mpr ha)) b (List.mem_range.mpr hb)
  rw [Bool.and_eq_true, Bool.and_eq_true, Bool.and_eq_true, Bool.and_eq_true, decide_eq_true_eq, decide_eq_true_eq, decide_eq_true_eq, decide_eq_true_eq, beq_iff_eq] at h6
  exact h6
theorem rows_all {K M : Nat} (h : K = 1 ∧ M = 2 ∨ K = 2 ∧ M = 4 ∨ K = 3 ∧ M = 8 ∨ K = 4 ∧ M = 16) : rowsOk K M = true := by
  rcases h with ⟨rfl, rfl⟩ | ⟨rfl, rfl⟩ | ⟨rfl, rfl⟩ | ⟨rfl, rfl⟩
  · exact rows1
  · exact rows2
  · exact rows3
  · exact rows4
theorem or_all : ((List.range 16).all fun a => (List.range 16).all fun b => decide (bits .or .i64 (a : Int) (b : Int) = ((a ||| b : Nat) : Int)) && decide (bits .and .i64 (a : Int) (b : Int) = ((a &&& b : Nat) : Int))) = true := by decide +kernel
theorem or_and_i64 {a b : Nat} (ha : a < 16) (hb : b < 16) : bits .or .i64 (a : Int) (b : Int) = ((a ||| b : Nat) : Int) ∧ bits .and .i64 (a : Int) (b : Int) = ((a &&& b : Nat) : Int) := by
  have h := List.all_eq_true.mp (List.all_eq_true.mp or_all a (List.mem_range.mpr ha)) b (List.mem_range.mpr hb)
  rw [Bool.and_eq_true, decide_eq_true_eq, decide_eq_true_eq] at h
  exact h
section
variable {ops : Array Oper} {Q : Exit → Act → World → Prop} {rest : List Oper} {a : Act} {w : World} {d : Option Tmp} {ty : TypeId} {p : String} {af : Array Edge} {gd : Option (Nat × Bool)}
theorem p_or {x y : Operand} {u v : Int} {r : Int} (hw : Region.wanted ⟨d, .binOp .or 3 x y 3, ty, p, af, gd⟩ (yielded ops a.tmps) = true) (hx : a.eval x = .int .i64 u) (hy : a.eval y = .int .i64 v) (hb : bits .or .i64 u v = r)
    (h : wpList Try.prog ops Q rest (a.put d (.int .i64 r)) w) : wpList Try.prog ops Q (⟨d, .binOp .or 3 x y 3, ty, p, af, gd⟩ :: rest) a w :=
  p_bin hw hx hy (by simp [go_sem]) (by subst hb; simp [go_sem]) h
theorem p_and {x y : Operand} {u v : Int} {r : Int} (hw : Region.wanted ⟨d, .binOp .and 3 x y 3, ty, p, af, gd⟩ (yielded ops a.tmps) = true) (hx : a.eval x = .int .i64 u) (hy : a.eval y = .int .i64 v) (hb : bits .and .i64 u v = r)
    (h : wpList Try.prog ops Q rest (a.put d (.int .i64 r)) w) : wpList Try.prog ops Q (⟨d, .binOp .and 3 x y 3, ty, p, af, gd⟩ :: rest) a w :=
  p_bin hw hx hy (by simp [go_sem]) (by subst hb; simp [go_sem]) h
theorem p_sub {x y : Operand} {u v : Int} {r : Int} (hw : Region.wanted ⟨d, .binOp .sub 3 x y 3, ty, p, af, gd⟩ (yielded ops a.tmps) = true) (hx : a.eval x = .int .i64 u) (hy : a.eval y = .int .i64 v) (hb : IntKind.i64.wrap (u - v) = r)
    (h : wpList Try.prog ops Q rest (a.put d (.int .i64 r)) w) : wpList Try.prog ops Q (⟨d, .binOp .sub 3 x y 3, ty, p, af, gd⟩ :: rest) a w :=
  p_bin hw hx hy (by simp [go_sem]) (by subst hb; simp [go_sem]) h
theorem p_max {x y : Operand} {u v : Int} {r : Int} (hw : Region.wanted ⟨d, .call { callee := .builtin .max, args := #[x, y], argTypes := #[3, 3] }, ty, p, af, gd⟩ (yielded ops a.tmps) = true) (hx : a.eval x = .int .i64 u) (hy : a.eval y = .int .i64 v) (hb : (if v > u then v else u) = r)
    (h : wpList Try.prog ops Q rest (a.put d (.int .i64 r)) w) : wpList Try.prog ops Q (⟨d, .call { callee := .builtin .max, args := #[x, y], argTypes := #[3, 3] }, ty, p, af, gd⟩ :: rest) a w :=
  p_val hw (by unfold execOp; subst hb; simp only [resolve, invoke, builtin, List.map_toArray, List.map_cons, List.map_nil, hx, hy, Sem.run_bind, Sem.run_pure, Result.andThen_ok, run_max_int2]) h
theorem p_min {x y : Operand} {u v : Int} {r : Int} (hw : Region.wanted ⟨d, .call { callee := .builtin .min, args := #[x, y], argTypes := #[3, 3] }, ty, p, af, gd⟩ (yielded ops a.tmps) = true) (hx : a.eval x = .int .i64 u) (hy : a.eval y = .int .i64 v) (hb : (if v < u then v else u) = r)
    (h : wpList Try.prog ops Q rest (a.put d (.int .i64 r)) w) : wpList Try.prog ops Q (⟨d, .call { callee := .builtin .min, args := #[x, y], argTypes := #[3, 3] }, ty, p, af, gd⟩ :: rest) a w :=
  p_val hw (by unfold execOp; subst hb; simp only [resolve, invoke, builtin, List.map_toArray, List.map_cons, List.map_nil, hx, hy, Sem.run_bind, Sem.run_pure, Result.andThen_ok, run_min_int2]) h
end
end Go.Proofs.Ytefnbjkmmmdagaa
