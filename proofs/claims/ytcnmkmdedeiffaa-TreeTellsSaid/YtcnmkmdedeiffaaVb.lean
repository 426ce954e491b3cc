/- PROVED here: what a row's condition gives of an argument that is a tree, with its nodes' numbers. No condition but those in each theorem's own head. -/
import Derived.Test.YtcnmkmdedeiffaaV
namespace Go.Proofs.Ytcnmkmdedeiffaa
open Go Go.ChangeShapes Go.WideShapes Go.ChangeAt Go.RowKit Go.Deep

theorem wf_le {n : Int} (h : (Lit.int .i64 n).wf = true) : n ≤ 9223372036854775807 := by
  unfold Lit.wf at h
  simp only [Bool.and_eq_true, decide_eq_true_eq] at h
  have h2 := h.2
  rw [show IntKind.i64.max = 9223372036854775807 by rfl] at h2
  exact h2
section
variable {H : Type} {enc : TypeId × Value → H} {W : World}
/-- a node -/
theorem node_ofB {n : Nat} {cs : List Value} {x : DataW H × List MemPlace} (hlen : cs.length = 5) (h : DataW.trod enc Try.prog W 0 (fun _ => true) true n 24 cs = some x) :
    ∃ (q : Nd) (K : Option Addr) (c : Nat), cs = [.int .i64 q.kd, .int .i64 q.n, .int .i64 q.pl, .string q.tx, .slice K q.ks.length c] ∧ Ints W K q.ks ∧ q.n ≤ 9223372036854775807 := by
  obtain ⟨d, pl⟩ := x
  obtain ⟨xs, k, _, _, _, hxl, hel⟩ := DataW.trod_struct under24 h
  obtain ⟨f0, g0, t0, o0⟩ := field_of fields24 (i := 0) rfl
  obtain ⟨f1, g1, t1, o1⟩ := field_of fields24 (i := 1) rfl
  obtain ⟨f2, g2, t2, o2⟩ := field_of fields24 (i := 2) rfl
  obtain ⟨f3, g3, t3, o3⟩ := field_of fields24 (i := 3) rfl
  obtain ⟨f4, g4, t4, o4⟩ := field_of fields24 (i := 4) rfl
  rw [size24] at hxl
  match cs, hlen, xs, hxl with
  | [v0, v1, v2, v3, v4], _, [x0, x1, x2, x3, x4], _ =>
    have e0 := hel 0 f0 g0
    have e1 := hel 1 f1 g1
    have e2 := hel 2 f2 g2
    have e3 := hel 3 f3 g3
    have e4 := hel 4 f4 g4
    rw [t0, o0, cells3] at e0
    rw [t1, o1, cells3] at e1
    rw [t2, o2, cells3] at e2
    rw [t3, o3, cells9] at e3
    rw [t4, o4, cells22] at e4
    obtain ⟨a0, q0, _, _⟩ := DataW.trod_int Try.underlying3 e0
    obtain ⟨a1, q1, _, hw1⟩ := DataW.trod_int Try.underlying3 e1
    obtain ⟨a2, q2, _, _⟩ := DataW.trod_int Try.underlying3 e2
    obtain ⟨s3, q3, _, _⟩ := DataW.trod_string Try.underlying9 e3
    obtain ⟨K, ks, c, q4, hI⟩ := ints_of e4
    simp at q0 q1 q2 q3 q4
    exact ⟨⟨a0, a1, a2, s3, ks⟩, K, c, by rw [q0, q1, q2, q3, q4], hI, wf_le hw1⟩
/-- a list of nodes -/
theorem nodes_ofB {n : Nat} {cs : List Value} {x : DataW H × List MemPlace} (h : DataW.trod enc Try.prog W 0 (fun _ => true) true n 28 cs = some x) : ∃ (A : Option Addr) (l : List Nd) (c : Nat), cs = [.slice A l.length c] ∧ Nds W A l ∧ l.length ≤ c ∧ ∀ x ∈ l, x.n ≤ 9223372036854775807 := by
  rcases open_slice Try.underlying28 h with ⟨hcs, hx⟩ | ⟨a, len, cap, m, n, D, Pl, hcs, _, hl, hm, hmm, hx, hcell⟩
  · exact ⟨none, [], 0, hcs, fun h => by simp at h, by simp, fun x hx => by cases hx⟩
  · simp only [if_true] at hmm
    subst hmm
    have each : ∀ i, i < m → ∃ q : Nd, ∃ K c, (W.cell? ((a.add (i * 5)).add 0) = some (.int .i64 q.kd) ∧ W.cell? ((a.add (i * 5)).add 1) = some (.int .i64 q.n) ∧ W.cell? ((a.add (i * 5)).add 2) = some (.int .i64 q.pl) ∧ W.cell? ((a.add (i * 5)).add 3) = some (.string q.tx) ∧ W.cell? ((a.add (i * 5)).add 4) = some (.slice K q.ks.length c)) ∧ Ints W K q.ks ∧ q.n ≤ 9223372036854775807 := fun i hi => by
      obtain ⟨cs', h1, h2⟩ := hcell i hi
      rw [cells24] at h1
      obtain ⟨_, hlen, hc⟩ := World.cells?_some h1
      obtain ⟨q, K, c, hq, hI⟩ := node_ofB hlen h2
      subst hq
      exact ⟨q, K, c, ⟨hc 0 (by omega), hc 1 (by omega), hc 2 (by omega), hc 3 (by omega), hc 4 (by omega)⟩, hI⟩
    obtain ⟨Q, hQ⟩ := pick_lt ⟨0, 0, 0, ⟨#[]⟩, []⟩ each
    refine ⟨some a, (List.range len).map Q, m, by rw [hcs]; simp, fun h0 => ?_, by simpa using hl, fun x hx => by
      obtain ⟨i, hi, rfl⟩ := List.mem_map.1 hx
      obtain ⟨_, _, _, _, h⟩ := hQ i (by have := List.mem_range.1 hi; omega)
      exact h⟩
    have h0' : 0 < m := by simp at h0; omega
    obtain ⟨b, off, spot⟩ := a
    obtain ⟨K0, c0, ⟨h00, _⟩, _⟩ := hQ 0 h0'
    have hspot : spot = none := by
      have := World.cell?_spot h00
      simpa [Addr.add] using this
    subst hspot
    have eqs : ∀ i o, (((⟨b, off, none⟩ : Addr).add (i * 5)).add o) = ⟨b, off + i * 5 + o, none⟩ := fun i o => by rw [add_flat, add_flat]
    refine ⟨b, off, rfl, World.block_lt_of_cell? W _ (by rw [eqs] at h00; exact h00), fun j hj => ?_⟩
    have hj' : j < len := by simpa using hj
    obtain ⟨K, c, ⟨e0, e1, e2, e3, e4⟩, hI, _⟩ := hQ j (by omega)
    rw [eqs] at e0 e1 e2 e3 e4
    simp only [List.getElem_map, List.getElem_range]
    exact ⟨K, c, by simpa using e0, e1, e2, e3, e4, hI⟩
/-- a tree -/
theorem tree_ofB {n : Nat} {cs : List Value} {x : DataW H × List MemPlace} (hlen : cs.length = 2) (h : DataW.trod enc Try.prog W 0 (fun _ => true) true n 30 cs = some x) :
    ∃ (A : Option Addr) (l : List Nd) (c : Nat) (r : Int), cs = [.slice A l.length c, .int .i64 r] ∧ Nds W A l ∧ l.length ≤ c ∧ ∀ x ∈ l, x.n ≤ 9223372036854775807 := by
  obtain ⟨d, pl⟩ := x
  obtain ⟨xs, k, _, _, _, hxl, hel⟩ := DataW.trod_struct under30 h
  obtain ⟨f0, g0, t0, o0⟩ := field_of fields30 (i := 0) rfl
  obtain ⟨f1, g1, t1, o1⟩ := field_of fields30 (i := 1) rfl
  rw [size30] at hxl
  match cs, hlen, xs, hxl with
  | [v0, v1], _, [x0, x1], _ =>
    have e0 := hel 0 f0 g0
    have e1 := hel 1 f1 g1
    rw [t0, o0, cells28] at e0
    rw [t1, o1, cells3] at e1
    obtain ⟨A, l, c, q0, hN, hc⟩ := nodes_ofB e0
    obtain ⟨a1, q1, _, _⟩ := DataW.trod_int Try.underlying3 e1
    simp at q0 q1
    exact ⟨A, l, c, a1, by rw [q0, q1], hN, hc⟩
theorem viewTreeB {base : Nat} {v : Value} {d : DataW H} {p : List MemPlace} (hv : Value.okWide Try.prog W .any base 30 v) (h : DataW.Trod enc Try.prog W 0 (fun _ => true) true 30 v d p) :
    ∃ (A : Option Addr) (c : Nat) (l : List Nd) (r : Int), v = .agg #[.slice A l.length c, .int .i64 r] ∧ Nds W A l ∧ l.length ≤ c ∧ ∀ x ∈ l, x.n ≤ 9223372036854775807 := by
  obtain ⟨cs, rfl, hsz⟩ := okWide_struct under30 hv
  rw [cells30] at hsz
  obtain ⟨fuel, hf⟩ := h
  obtain ⟨A, l, c, r, e, hN, hc⟩ := tree_ofB (cs := cs.toList) (by simpa using hsz) (by simpa [Value.cells] using hf)
  exact ⟨A, c, l, r, by rw [← e], hN, hc⟩
end
end Go.Proofs.Ytcnmkmdedeiffaa
