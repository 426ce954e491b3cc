/- PROVED here: what a row's condition gives of an argument that is a list of strings, or a list of pairs of strings. No condition but those in each theorem's own head. -/
import Derived.Test.YtefnbjkmmmdagaaQ
import Derived.Test.YtefnbjkmmmdagaaRows
import Derived.WalkKit
import Derived.ProofKit
import Derived.OpenShut
import Derived.Carry
import Derived.Deep.Strs
import Derived.Deep.Slices
namespace Go.Proofs.Ytefnbjkmmmdagaa
open Go Go.ChangeShapes Go.WideShapes Go.ChangeAt Go.RowKit Go.Deep

theorem ownK : ownKnob Try.prog.godebug = none := by kernel_rfl
theorem laidOut : laidOutB Try.prog = true := by kernel_rfl
theorem cells9 : Try.prog.cellsOf 9 = 1 := by kernel_rfl
theorem cells45 : Try.prog.cellsOf 45 = 2 := by kernel_rfl
theorem u45 : Try.prog.underlying 45 = some (.array 2 9) := by kernel_rfl
theorem u9 : Try.prog.underlying 9 = some .string := by kernel_rfl
theorem viewS {H : Type} {enc : TypeId × Value → H} {W : World} {base : Nat} {v : Value} {d : DataW H} {p : List MemPlace} (hv : Value.okWide Try.prog W .any base 22 v)
    (h : DataW.Trod enc Try.prog W 0 (fun _ => true) true 22 v d p) : ∃ (A : Option Addr) (c : Nat) (l : List ByteArray), v = .slice A l.length c ∧ Strs W A l ∧ l.length ≤ c ∧ l.length ≤ maxLen ∧ ∀ s ∈ l, s.size ≤ maxLen := by
  obtain ⟨a0, len, cap, rfl⟩ := okWide_slice Try.underlying22 hv
  obtain ⟨fuel, hf⟩ := h
  rcases open_strs Try.underlying22 u9 cells9 hf with ⟨hcs, hx⟩ | ⟨a, len', cap', m, Sx, hcs, _, hl, hm, hmm, hx, hcell⟩
  · simp [Value.cells] at hcs
    obtain ⟨rfl, rfl, rfl⟩ := hcs
    exact ⟨none, 0, [], rfl, fun h => by simp at h, by simp, by unfold maxLen; simp, fun s hs => by simp at hs⟩
  · simp [Value.cells] at hcs
    obtain ⟨rfl, rfl, rfl⟩ := hcs
    simp only [if_true] at hmm
    subst hmm
    refine ⟨some a, m, (List.range len).map Sx, by simp, fun h0 => ?_, by simpa using hl, by simp; omega, fun s hs => ?_⟩
    · have h0' : 0 < m := by simp at h0; omega
      obtain ⟨b, off, spot⟩ := a
      have hspot : spot = none := by simpa [Addr.add] using World.cell?_spot (hcell 0 h0').1
      subst hspot
      refine ⟨b, off, rfl, World.block_lt_of_cell? W _ (by have := (hcell 0 h0').1; rw [add_none] at this; exact this), fun j hj => ?_⟩
      have hj' : j < len := by simpa using hj
      have := (hcell j (by omega)).1
      rw [add_none] at this
      rw [this]; simp
    · simp only [List.mem_map, List.mem_range] at hs
      obtain ⟨i, hi, rfl⟩ := hs
      exact (hcell i (by omega)).2
theorem viewP {H : Type} {enc : TypeId × Value → H} {W : World} {base : Nat} {v : Value} {d : DataW H} {p : List MemPlace} (hv : Value.okWide Try.prog W .any base 23 v)
    (h : DataW.Trod enc Try.prog W 0 (fun _ => true) true 23 v d p) : ∃ (A : Option Addr) (c : Nat) (l : List (ByteArray × ByteArray)), v = .slice A l.length c ∧ Prs W A l ∧ l.length ≤ maxLen := by
  obtain ⟨a0, len, cap, rfl⟩ := okWide_slice Try.underlying23 hv
  obtain ⟨fuel, hf⟩ := h
  rcases open_slice Try.underlying23 hf with ⟨hcs, hx⟩ | ⟨a, len', cap', m, n, D, Pl, hcs, _, hl, hm, hmm, hx, hcell⟩
  · simp [Value.cells] at hcs
    obtain ⟨rfl, rfl, rfl⟩ := hcs
    exact ⟨none, 0, [], rfl, fun h => by simp at h, by unfold maxLen; simp⟩
  · simp [Value.cells] at hcs
    obtain ⟨rfl, rfl, rfl⟩ := hcs
    simp only [if_true] at hmm
    subst hmm
    have each : ∀ i, i < m → ∃ q : ByteArray × ByteArray, W.cell? ((a.add (i * 2)).add 0) = some (.string q.1) ∧ W.cell? ((a.add (i * 2)).add 1) = some (.string q.2) := fun i hi => by
      obtain ⟨cs', h1, h2⟩ := hcell i hi
      rw [cells45] at h1
      obtain ⟨_, hlen, hc⟩ := World.cells?_some h1
      obtain ⟨xs, k, _, _, _, hxl, hel⟩ := DataW.trod_array u45 h2
      match cs', hlen with
      | [v0, v1], _ =>
        have e0 := hel 0 (by omega)
        have e1 := hel 1 (by omega)
        rw [cells9] at e0 e1
        rw [List.getElem?_eq_getElem (by omega)] at e0 e1
        obtain ⟨s0, q0, _, _⟩ := DataW.trod_string u9 e0
        obtain ⟨s1, q1, _, _⟩ := DataW.trod_string u9 e1
        simp at q0 q1
        exact ⟨(s0, s1), by rw [hc 0 (by omega)]; simp [q0], by rw [hc 1 (by omega)]; simp [q1]⟩
    obtain ⟨Q, hQ⟩ := choose_lt each
    refine ⟨some a, m, (List.range len).map Q, by simp, fun h0 => ?_, by simp; omega⟩
    have h0' : 0 < m := by simp at h0; omega
    obtain ⟨b, off, spot⟩ := a
    have hspot : spot = none := by
      have := World.cell?_spot (hQ 0 h0').1
      simpa [Addr.add] using this
    subst hspot
    refine ⟨b, off, rfl, World.block_lt_of_cell? W _ (by have := (hQ 0 h0').1; rw [add_none, add_none] at this; exact this), fun j hj => ?_⟩
    have hj' : j < len := by simpa using hj
    have := hQ j (by omega)
    rw [add_none, add_none, add_none] at this
    simpa using this
theorem wf64 {n : Int} (h : (Lit.int .i64 n).wf = true) : -9223372036854775808 ≤ n ∧ n ≤ 9223372036854775807 := by
  simpa [Lit.wf, IntKind.min, IntKind.max, IntKind.signed, IntKind.bits] using h
end Go.Proofs.Ytefnbjkmmmdagaa
