/- PROVED here: the contract of slices.Clone at strings; words for pairs. No condition but those in each theorem's own head. -/
import Derived.Test.YtefnbjkmmmdagaaF
namespace Go.Proofs.Ytefnbjkmmmdagaa
open Go Go.RowKit

theorem info9 : (Try.prog.info? 9).map (fun i => (i.zero, i.size, i.bytes)) = some (some (.string ⟨#[]⟩), 1, 16) := by kernel_rfl
/-- a slice that the call owns, of strings -/
theorem strs_of_own {w : World} {base : Nat} {v : Value} {l : List ByteArray} (h : w.ownsRow base 9 1 v l.length (l.map Value.string)) : ∃ A c, v = .slice A l.length c ∧ Strs w A l ∧ l.length ≤ c ∧ ∀ a, A = some a → base ≤ a.block := by
  rcases h.2 with ⟨rfl, e⟩ | ⟨g, cap, cur, rfl, hb, hg, hn, _, _, ht⟩
  · exact ⟨none, 0, by rw [e], fun h0 => by omega, by omega, fun a e => by cases e⟩
  · refine ⟨_, cap, rfl, fun h0 => ⟨g, 0, rfl, (Array.getElem?_eq_some_iff.1 hg).1, fun j hj => ?_⟩, hn, fun a e => by injection e with e; subst e; exact hb⟩
    rw [Nat.zero_add, cell_of_row w g j cur 9 (0, 0) hg]
    have h2 : (cur.toList.take (l.length * 1))[j]? = some (.string l[j]) := by rw [ht]; simp [hj]
    rw [List.getElem?_take, if_pos (by omega)] at h2
    simpa using h2
theorem nil22 (a : Addr) (n c : Nat) (w : World) : (binOp .eql 22 (.slice (some a) n c) (.slice none 0 0)).run Try.prog w = .ok (.bool false) w := by kernel_rfl
theorem own_empty9 (w : World) (base : Nat) (hb : base ≤ w.heap.size) : (w.alloc (.cells #[] 9)).ownsRow base 9 1 (.slice (some ⟨w.heap.size, 0, none⟩) 0 0) 0 [] :=
  ⟨rfl, .inr ⟨w.heap.size, 0, #[], rfl, hb, heap_alloc_new w _, Nat.le_refl _, by unfold maxLen; omega, rfl, rfl⟩⟩
theorem add_none (b off j : Nat) : Addr.add ⟨b, off, none⟩ j = ⟨b, off + j, none⟩ := by
  unfold Addr.add; split
  · rename_i e; subst e; rfl
  · rfl
set_option maxRecDepth 100000 in
set_option maxHeartbeats 4000000 in
theorem clone_any (A : Option Addr) (c : Nat) (l : List ByteArray) (w : World) (h0 : 0 < l.length) (hl : l.length ≤ 16) (hA : Strs w A l) :
    Calls Try.prog 40 #[.slice A l.length c] w fun e w' => ∃ A' c', e = .returned (.slice A' l.length c') ∧ Strs w' A' l ∧ Below w.heap.size w w' := by
  obtain ⟨i0, hi, hz0, hz1, hz2⟩ := info_parts info9
  obtain ⟨b, off, rfl, hb, hc⟩ := hA h0
  have hnil := nil22 ⟨b, off, none⟩ l.length c
  have HC := Lib.hid (fun j hj => (Below.cell (heap1 w (.cells #[] 9)) (p := ⟨b, off + j, none⟩) hb).trans (hc j hj))
  clear hc hA
  go_enter Try.func40, Try.ntmps40
  go_wp2_with (first
    | (at_builtin; refine wpList_append_own _ rfl _ _ 22 rfl w.heap.size 9 i0 (.string ⟨#[]⟩) 1 16 Try.underlying22 hi hz0 hz1 hz2 rfl (by decide) _ _ _ rfl (own_empty9 w w.heap.size (Nat.le_refl _)) ⟨b, off, none⟩ l.length c (l.map Value.string) rfl (by simp) ?c1 ?c2 ?c3 ?c4 ?c5 ?_))
  case c1 =>
    intro j u hj
    have hj' : j < l.length := by
      rcases Nat.lt_or_ge j l.length with h | h
      · exact h
      · rw [List.getElem?_eq_none (by simpa using h)] at hj; cases hj
    rw [add_none, HC.out j hj', ← hj]; simp [hj']
  case c2 => intro u hu; simp at hu; obtain ⟨x, _, rfl⟩ := hu; rfl
  case c3 => unfold maxLen; omega
  case c4 => omega
  case c5 => simp
  intro v' w4 hown4 hgrow4 _
  have hown5 : w4.ownsRow w.heap.size 9 1 v' l.length (l.map Value.string) := by simpa using hown4
  obtain ⟨A', c', rfl, hS, _, _⟩ := strs_of_own hown5
  have hb4 : Below w.heap.size w w4 := (heap1 w _).grown hgrow4 (by simp) (fun q hq => by simp [Value.ownBlock] at hq; omega)
  clear hown4 hown5 hgrow4
  go_wp2
  go_ret
  exact ⟨A', c', rfl, hS, hb4⟩
/-- a slice of pairs of strings that reads as a list, nil let in -/
def Prs (w : World) (A : Option Addr) (l : List (ByteArray × ByteArray)) : Prop :=
  0 < l.length → ∃ b off, A = some ⟨b, off, none⟩ ∧ b < w.heap.size ∧ ∀ j (hj : j < l.length), w.cell? ⟨b, off + j * 2, none⟩ = some (.string l[j].1) ∧ w.cell? ⟨b, off + j * 2 + 1, none⟩ = some (.string l[j].2)
theorem Prs.below {w w' : World} {A : Option Addr} {l : List (ByteArray × ByteArray)} (h : Prs w A l) (hb : Below w.heap.size w w') : Prs w' A l := fun h0 => by
  obtain ⟨b, off, e, hl, hc⟩ := h h0
  exact ⟨b, off, e, Nat.lt_of_lt_of_le hl hb.size, fun j hj => ⟨(hb.cell (p := ⟨b, off + j * 2, none⟩) hl).trans (hc j hj).1, (hb.cell (p := ⟨b, off + j * 2 + 1, none⟩) hl).trans (hc j hj).2⟩⟩
/-- a pair more -/
def addP (a b : Nat) (m : Nat → Nat) (i : Nat) : Nat := if i = a then m a ||| 2 ^ b else m i
/-- the rows of masks of pairs -/
def relU (l : List ByteArray) (ps : List (ByteArray × ByteArray)) : Nat → Nat := ps.foldl (fun m p => addP (idxO l p.1).toNat (idxO l p.2).toNat m) (fun i => 2 ^ i)
def relD (l : List ByteArray) (ps : List (ByteArray × ByteArray)) : Nat → Nat := ps.foldl (fun m p => addP (idxO l p.2).toNat (idxO l p.1).toNat m) (fun i => 2 ^ i)
/-- are both of a pair names -/
def okP (l : List ByteArray) (p : ByteArray × ByteArray) : Bool := decide (0 ≤ idxO l p.1) && decide (0 ≤ idxO l p.2)
theorem relU_take (l : List ByteArray) (ps : List (ByteArray × ByteArray)) (k : Nat) (hk : k < ps.length) : relU l (ps.take (k + 1)) = addP (idxO l ps[k].1).toNat (idxO l ps[k].2).toNat (relU l (ps.take k)) := by
  unfold relU; rw [List.take_succ_eq_append_getElem hk, List.foldl_append]; rfl
theorem relD_take (l : List ByteArray) (ps : List (ByteArray × ByteArray)) (k : Nat) (hk : k < ps.length) : relD l (ps.take (k + 1)) = addP (idxO l ps[k].2).toNat (idxO l ps[k].1).toNat (relD l (ps.take k)) := by
  unfold relD; rw [List.take_succ_eq_append_getElem hk, List.foldl_append]; rfl
theorem addP_bit (a b : Nat) (m : Nat → Nat) (i j : Nat) : (addP a b m i).testBit j = ((m i).testBit j || (decide (i = a) && decide (b = j))) := by
  unfold addP
  by_cases e : i = a
  · subst e; rw [if_pos rfl, Nat.testBit_or, Nat.testBit_two_pow]; simp
  · rw [if_neg e]; simp [e]
theorem Fit.add {n a b : Nat} {m : Nat → Nat} (h : Fit n m) (hb : b < n) : Fit n (addP a b m) := fun i j hi hj => by
  rw [addP_bit, Bool.or_eq_true, Bool.and_eq_true] at hj
  rcases hj with hj | hj
  · exact h i j hi hj
  · have := of_decide_eq_true hj.2; omega
theorem fit_self (n : Nat) : Fit n (fun i => 2 ^ i) := fun a j ha hj => by
  rw [Nat.testBit_two_pow] at hj; have := of_decide_eq_true hj; omega
theorem refl_self (n : Nat) : Refl n (fun i => 2 ^ i) := fun a _ => by rw [Nat.testBit_two_pow]; simp
theorem Refl.add {n a b : Nat} {m : Nat → Nat} (h : Refl n m) : Refl n (addP a b m) := fun i hi => by rw [addP_bit, h i hi]; rfl
theorem Turn.add {n a b : Nat} {u d : Nat → Nat} (h : Turn n u d) : Turn n (addP a b u) (addP b a d) := fun i j hi hj => by
  rw [addP_bit, addP_bit, h i j hi hj, Bool.and_comm]
  congr 2
  · rw [Bool.eq_iff_iff]; simp [eq_comm]
  · rw [Bool.eq_iff_iff]; simp [eq_comm]
theorem turn_self (n : Nat) : Turn n (fun i => 2 ^ i) (fun i => 2 ^ i) := fun a b _ _ => by
  rw [Nat.testBit_two_pow, Nat.testBit_two_pow, Bool.eq_iff_iff]; simp [eq_comm]
theorem idxO_lt {α : Type} [DecidableEq α] (l : List α) (x : α) (h : 0 ≤ idxO l x) : (idxO l x).toNat < l.length := by
  rcases idxO_spec l x with ⟨h1, _⟩ | ⟨i, hi, h1, _⟩
  · omega
  · rw [h1]; simpa using hi
theorem rel_facts (l : List ByteArray) : ∀ (ps : List (ByteArray × ByteArray)) (u d : Nat → Nat), (∀ p ∈ ps, okP l p = true) → Fit l.length u → Fit l.length d → Refl l.length u → Turn l.length u d →
    Fit l.length (ps.foldl (fun m p => addP (idxO l p.1).toNat (idxO l p.2).toNat m) u) ∧ Fit l.length (ps.foldl (fun m p => addP (idxO l p.2).toNat (idxO l p.1).toNat m) d) ∧ Refl l.length (ps.foldl (fun m p => addP (idxO l p.1).toNat (idxO l p.2).toNat m) u) ∧ Turn l.length (ps.foldl (fun m p => addP (idxO l p.1).toNat (idxO l p.2).toNat m) u) (ps.foldl (fun m p => addP (idxO l p.2).toNat (idxO l p.1).toNat m) d)
  | [], _, _, _, h1, h2, h3, h4 => ⟨h1, h2, h3, h4⟩
  | p :: ps, u, d, hp, h1, h2, h3, h4 => by
    have hq := hp p (by simp)
    unfold okP at hq
    rw [Bool.and_eq_true, decide_eq_true_eq, decide_eq_true_eq] at hq
    exact rel_facts l ps _ _ (fun q hq => hp q (by simp [hq])) (h1.add (idxO_lt l _ hq.2)) (h2.add (idxO_lt l _ hq.1)) h3.add h4.add
theorem rel_ok (l : List ByteArray) (ps : List (ByteArray × ByteArray)) (h : ∀ p ∈ ps, okP l p = true) : Fit l.length (relU l ps) ∧ Fit l.length (relD l ps) ∧ Refl l.length (relU l ps) ∧ Turn l.length (relU l ps) (relD l ps) :=
  rel_facts l ps _ _ h (fit_self _) (fit_self _) (refl_self _) (turn_self _)
end Go.Proofs.Ytefnbjkmmmdagaa
