/- PROVED here: more steps of a region whose calls leave old memory alone; facts about the list of a set. No condition but those in each theorem's own head. -/
import Derived.Test.YtabdhmfjbielaaaDoorHh
import Derived.Test.YtabdhmfjbielaaaDoorCn
namespace Go.Proofs.YtabdhmfjbielaaaDoor
open Go Go.RowKit

section
variable {ops : Array Oper} {C : World → Prop} {Q : Act → Prop} {rest : List Oper} {d : Option Tmp} {ty : TypeId} {p : String} {af : Array Edge} {gd : Option (Nat × Bool)} {a : Act}
theorem q_skip {op : Op} (hw : Region.wanted ⟨d, op, ty, p, af, gd⟩ (yielded ops a.tmps) = false) (h : wpQuiet Tryd.prog ops C Q rest (a.put d undef)) : wpQuiet Tryd.prog ops C Q (⟨d, op, ty, p, af, gd⟩ :: rest) a := by
  unfold wpQuiet; rw [if_neg (by rw [hw]; simp)]; exact h
theorem q_pickF {c x y : Operand} {v : Value} (hw : Region.wanted ⟨d, .pick c x y, ty, p, af, gd⟩ (yielded ops a.tmps) = true) (hc : a.eval c = .bool false) (hy : a.eval y = v)
    (h : wpQuiet Tryd.prog ops C Q rest (a.put d v)) : wpQuiet Tryd.prog ops C Q (⟨d, .pick c x y, ty, p, af, gd⟩ :: rest) a :=
  q_op hw (fun w _ => by unfold Oper.quietAt execOp; simp [hc, hy, asBool, Oper.quietUpon]) h
theorem q_lss {x y : Operand} {u v : Int} {b : Bool} (hw : Region.wanted ⟨d, .binOp .lss 3 x y 3, ty, p, af, gd⟩ (yielded ops a.tmps) = true) (hx : a.eval x = .int .i64 u) (hy : a.eval y = .int .i64 v) (hb : decide (u < v) = b)
    (h : wpQuiet Tryd.prog ops C Q rest (a.put d (.bool b))) : wpQuiet Tryd.prog ops C Q (⟨d, .binOp .lss 3 x y 3, ty, p, af, gd⟩ :: rest) a :=
  q_bin hw hx hy (fun w => by simp [go_sem]) (fun w => by subst hb; simp [go_sem]) h
theorem q_leq {x y : Operand} {u v : Int} {b : Bool} (hw : Region.wanted ⟨d, .binOp .leq 3 x y 3, ty, p, af, gd⟩ (yielded ops a.tmps) = true) (hx : a.eval x = .int .i64 u) (hy : a.eval y = .int .i64 v) (hb : decide (u ≤ v) = b)
    (h : wpQuiet Tryd.prog ops C Q rest (a.put d (.bool b))) : wpQuiet Tryd.prog ops C Q (⟨d, .binOp .leq 3 x y 3, ty, p, af, gd⟩ :: rest) a :=
  q_bin hw hx hy (fun w => by simp [go_sem]) (fun w => by subst hb; simp [go_sem]) h
theorem q_gtr {x y : Operand} {u v : Int} {b : Bool} (hw : Region.wanted ⟨d, .binOp .gtr 3 x y 3, ty, p, af, gd⟩ (yielded ops a.tmps) = true) (hx : a.eval x = .int .i64 u) (hy : a.eval y = .int .i64 v) (hb : decide (v < u) = b)
    (h : wpQuiet Tryd.prog ops C Q rest (a.put d (.bool b))) : wpQuiet Tryd.prog ops C Q (⟨d, .binOp .gtr 3 x y 3, ty, p, af, gd⟩ :: rest) a :=
  q_bin hw hx hy (fun w => by simp [go_sem]) (fun w => by subst hb; simp [go_sem]) h
theorem q_geq {x y : Operand} {u v : Int} {b : Bool} (hw : Region.wanted ⟨d, .binOp .geq 3 x y 3, ty, p, af, gd⟩ (yielded ops a.tmps) = true) (hx : a.eval x = .int .i64 u) (hy : a.eval y = .int .i64 v) (hb : decide (v ≤ u) = b)
    (h : wpQuiet Tryd.prog ops C Q rest (a.put d (.bool b))) : wpQuiet Tryd.prog ops C Q (⟨d, .binOp .geq 3 x y 3, ty, p, af, gd⟩ :: rest) a :=
  q_bin hw hx hy (fun w => by simp [go_sem]) (fun w => by subst hb; simp [go_sem]) h
theorem q_neq {x y : Operand} {u v : Int} {b : Bool} (hw : Region.wanted ⟨d, .binOp .neq 3 x y 3, ty, p, af, gd⟩ (yielded ops a.tmps) = true) (hx : a.eval x = .int .i64 u) (hy : a.eval y = .int .i64 v) (hb : (u != v) = b)
    (h : wpQuiet Tryd.prog ops C Q rest (a.put d (.bool b))) : wpQuiet Tryd.prog ops C Q (⟨d, .binOp .neq 3 x y 3, ty, p, af, gd⟩ :: rest) a :=
  q_bin hw hx hy (fun w => by simp [go_sem]) (fun w => by simp [go_sem, hb]) h
theorem q_neqB {x y : Operand} {u v b : Bool} (hw : Region.wanted ⟨d, .binOp .neq 4 x y 4, ty, p, af, gd⟩ (yielded ops a.tmps) = true) (hx : a.eval x = .bool u) (hy : a.eval y = .bool v) (hb : (u != v) = b)
    (h : wpQuiet Tryd.prog ops C Q rest (a.put d (.bool b))) : wpQuiet Tryd.prog ops C Q (⟨d, .binOp .neq 4 x y 4, ty, p, af, gd⟩ :: rest) a :=
  q_bin hw hx hy (fun w => by simp [go_sem]) (fun w => by subst hb; have := lit4; simp [go_sem, this]; cases u <;> cases v <;> rfl) h
theorem run_indexI (b off n c k : Nat) (hk : k < n) (w : World) : (Instr.indexAt 22 (.slice (some ⟨b, off, none⟩) n c) (.int .i64 (k : Int))).run Tryd.prog w = .ok (.pointer (some ⟨b, off + k, none⟩)) w := by
  have h22 : Tryd.prog.underlying 22 = some (.slice (Tryd.prog.elem 22)) := by kernel_rfl
  have hz : (Tryd.prog.info? 3).map (·.size) = some 1 := by kernel_rfl
  have hlt : (k : Int) < (n : Int) := by omega
  rw [run_indexAt_slice w 22 _ n c .i64 _ h22]
  cases hq : Tryd.prog.info? 3 with
  | none => rw [hq] at hz; cases hz
  | some i =>
    rw [hq] at hz
    have hz' : i.size = 1 := by simpa using hz
    simp [go_sem, sizeOf, typeInfo, hq, hz', hlt]
theorem q_index {x y : Operand} {b off n c k : Nat} (hw : Region.wanted ⟨d, .indexAddr 22 x y, ty, p, af, gd⟩ (yielded ops a.tmps) = true) (hx : a.eval x = .slice (some ⟨b, off, none⟩) n c) (hy : a.eval y = .int .i64 (k : Int)) (hk : k < n)
    (h : wpQuiet Tryd.prog ops C Q rest (a.put d (.pointer (some ⟨b, off + k, none⟩)))) : wpQuiet Tryd.prog ops C Q (⟨d, .indexAddr 22 x y, ty, p, af, gd⟩ :: rest) a :=
  q_op hw (fun w _ => by unfold Oper.quietAt execOp; simp only [hx, hy, Sem.run_bind, run_indexI b off n c k hk, Sem.run_pure, Result.andThen_ok]; exact ⟨rfl, rfl⟩) h
theorem run_load3 {w : World} {b off : Nat} {n : Int} (h : w.cell? ⟨b, off, none⟩ = some (.int .i64 n)) : (Instr.loadAt 3 (.pointer (some ⟨b, off, none⟩))).run Tryd.prog w = .ok (.int .i64 n) w := by
  have h3 := Tryd.underlying3
  have h1 := Tryd.isAgg3
  simp [go_sem, Instr.loadAt, h, h1]
theorem q_load3 {x : Operand} {b off : Nat} {n : Int} (hw : Region.wanted ⟨d, .load 3 x, ty, p, af, gd⟩ (yielded ops a.tmps) = true) (hx : a.eval x = .pointer (some ⟨b, off, none⟩)) (hc : ∀ w, C w → w.cell? ⟨b, off, none⟩ = some (.int .i64 n))
    (h : wpQuiet Tryd.prog ops C Q rest (a.put d (.int .i64 n))) : wpQuiet Tryd.prog ops C Q (⟨d, .load 3 x, ty, p, af, gd⟩ :: rest) a :=
  q_op hw (fun w hC => by unfold Oper.quietAt execOp; simp only [hx, Sem.run_bind, run_load3 (hc w hC), Sem.run_pure, Result.andThen_ok]; exact ⟨rfl, rfl⟩) h
end

/-- the elements from m on -/
def ef (s m : Nat) : List Int := ((List.range' m (4096 - m)).filter s.testBit).map Int.ofNat
theorem ef_zero (s : Nat) : ef s 0 = els s 4096 := by unfold ef els; rw [List.range_eq_range']
theorem ef_succ (s m : Nat) (h : m < 4096) : ef s m = if s.testBit m then (m : Int) :: ef s (m + 1) else ef s (m + 1) := by
  unfold ef
  rw [show 4096 - m = (4096 - (m + 1)) + 1 by omega, List.range'_succ, List.filter_cons]
  cases s.testBit m <;> simp
theorem nextF_hit {s m : Nat} (h : m < 4096) (hb : s.testBit m = true) : nextF s (m : Int) = m := nextF_some h (by omega) hb fun j h1 h2 => by omega
theorem nextF_miss {s m : Nat} (hb : s.testBit m = false) : nextF s (m : Int) = nextF s ((m : Int) + 1) := by
  unfold nextF
  have : (fun j : Nat => decide ((m : Int) ≤ (j : Int)) && s.testBit j) = (fun j : Nat => decide ((m : Int) + 1 ≤ (j : Int)) && s.testBit j) := by
    funext j
    by_cases e : j = m
    · subst e; simp [hb]
    · by_cases h : (m : Int) ≤ (j : Int)
      · have h2 : (m : Int) + 1 ≤ (j : Int) := by omega
        simp [h, h2]
      · have h2 : ¬ (m : Int) + 1 ≤ (j : Int) := by omega
        simp [h, h2]
  rw [this]
theorem ef_nil (s : Nat) : ∀ (f m : Nat), 4096 ≤ m + f → ef s m = [] → nextF s (m : Int) = -1
  | 0, m, h, _ => nextF_big (by omega)
  | f + 1, m, h, he => by
    by_cases hm : m < 4096
    · rw [ef_succ s m hm] at he
      cases hb : s.testBit m with
      | true => rw [hb] at he; simp at he
      | false =>
        rw [hb] at he
        have := ef_nil s f (m + 1) (by omega) (by simpa using he)
        rw [nextF_miss hb]; exact this
    · exact nextF_big (by omega)
theorem ef_cons (s : Nat) (x : Int) (r : List Int) : ∀ (f m : Nat), 4096 ≤ m + f → ef s m = x :: r → ∃ k : Nat, x = k ∧ m ≤ k ∧ k < 4096 ∧ s.testBit k = true ∧ nextF s (m : Int) = k ∧ r = ef s (k + 1)
  | 0, m, h, he => by
    have : ef s m = [] := by unfold ef; rw [show 4096 - m = 0 by omega]; rfl
    rw [this] at he; cases he
  | f + 1, m, h, he => by
    by_cases hm : m < 4096
    · rw [ef_succ s m hm] at he
      cases hb : s.testBit m with
      | true =>
        rw [hb] at he
        simp only [if_true, List.cons.injEq] at he
        exact ⟨m, he.1.symm, Nat.le_refl _, hm, hb, nextF_hit hm hb, he.2.symm⟩
      | false =>
        rw [hb] at he
        obtain ⟨k, h1, h2, h3, h4, h5, h6⟩ := ef_cons s x r f (m + 1) (by omega) (by simpa using he)
        exact ⟨k, h1, by omega, h3, h4, by rw [nextF_miss hb]; exact h5, h6⟩
    · have : ef s m = [] := by unfold ef; rw [show 4096 - m = 0 by omega]; rfl
      rw [this] at he; cases he
theorem has_ofL (l : List Int) (i : Nat) (hi : i < l.length) : hasI (ofL l) (l.getD i 0) = decide (0 ≤ l.getD i 0 ∧ l.getD i 0 < 4096) := by
  unfold hasI
  by_cases h : 0 ≤ l.getD i 0 ∧ l.getD i 0 < 4096
  · rw [decide_eq_true h, Bool.true_and, ofL_bit]
    have e : ((l.getD i 0).toNat : Int) = l.getD i 0 := by omega
    have hm : l.getD i 0 ∈ l := by
      simp [hi]
    have h2 : (l.getD i 0).toNat < 4096 := by omega
    rw [e]
    simp only [decide_eq_true h2, Bool.true_and]
    exact List.contains_iff_mem.2 hm
  · rw [decide_eq_false h]; rfl
theorem ofL_els {s : Nat} (hs : Small s) : ofL (els s 4096) = s := by
  apply Nat.eq_of_testBit_eq; intro j
  rw [ofL_bit]
  by_cases hj : j < 4096
  · rw [decide_eq_true hj, Bool.true_and, Bool.eq_iff_iff, List.contains_iff_mem, els_mem]
    constructor
    · rintro ⟨k, hk, _, hb⟩
      obtain rfl : j = k := by omega
      exact hb
    · intro hb; exact ⟨j, rfl, hj, hb⟩
  · rw [decide_eq_false hj, hs j (by omega)]; rfl
theorem has_add (s : Nat) (n : Int) : hasI (addI s n) n = decide (0 ≤ n ∧ n < 4096) := by
  unfold hasI addI
  by_cases h : 0 ≤ n ∧ n < 4096
  · rw [if_pos h, Nat.testBit_or, Nat.testBit_two_pow]; simp
  · rw [decide_eq_false h]; rfl
theorem has_del (s : Nat) (n : Int) : hasI (delI s n) n = false := by
  unfold hasI delI
  by_cases h : 0 ≤ n ∧ n < 4096
  · rw [if_pos h, minus_bit, Nat.testBit_two_pow]; simp
  · rw [decide_eq_false h]; rfl
theorem del_within (s : Nat) (n : Int) : delI s n ||| s = s := by
  unfold delI
  split
  · apply Nat.eq_of_testBit_eq; intro j; simp only [Nat.testBit_or, minus_bit]; cases s.testBit j <;> cases (2 ^ n.toNat).testBit j <;> rfl
  · simp
theorem add_within (s : Nat) (n : Int) : s ||| addI s n = addI s n := by
  unfold addI
  split
  · apply Nat.eq_of_testBit_eq; intro j; simp only [Nat.testBit_or]; cases s.testBit j <;> cases (2 ^ n.toNat).testBit j <;> rfl
  · simp
/-- what the first loop of BitsList knows at place i -/
def LI (s i : Nat) (x : Int) : Prop := ∃ m : Nat, (els s 4096).drop i = ef s m ∧ x = nextF s (m : Int) ∧ (0 < i → (els s 4096).getD (i - 1) 0 + 1 = m)
theorem LI_start (s : Nat) : LI s 0 (nextF s 0) := ⟨0, by rw [List.drop_zero, ef_zero], rfl, fun h => by omega⟩
theorem LI_step {s i : Nat} {x : Int} (h : LI s i x) (hi : i < (els s 4096).length) :
    ∃ k : Nat, (els s 4096).getD i 0 = k ∧ k < 4096 ∧ s.testBit k = true ∧ x = k ∧ (0 < i → (els s 4096).getD (i - 1) 0 < k) ∧ LI s (i + 1) (nextF s ((k : Int) + 1)) := by
  obtain ⟨m, h1, h2, h3⟩ := h
  have hd : (els s 4096).drop i = (els s 4096)[i] :: (els s 4096).drop (i + 1) := List.drop_eq_getElem_cons hi
  rw [h1] at hd
  obtain ⟨k, k1, k2, k3, k4, k5, k6⟩ := ef_cons s _ _ 4096 m (by omega) hd
  have hg : (els s 4096).getD i 0 = k := by simp [hi, k1]
  refine ⟨k, hg, k3, k4, h2.trans k5, fun h0 => by have := h3 h0; omega, k + 1, k6, by rw [Int.natCast_add]; rfl, fun _ => ?_⟩
  rw [Nat.add_sub_cancel, hg]; rfl
theorem LI_end {s i : Nat} {x : Int} (h : LI s i x) (hi : (els s 4096).length ≤ i) : x = -1 := by
  obtain ⟨m, h1, h2, _⟩ := h
  rw [List.drop_eq_nil_of_le hi] at h1
  rw [h2]
  exact ef_nil s 4096 m (by omega) h1.symm
end Go.Proofs.YtabdhmfjbielaaaDoor
