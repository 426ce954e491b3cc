/- PROVED here: parts TyWv of the claim. No condition but those in each theorem's own head. -/
import Derived.Test.YtignojhijmamhaaK27
import Derived.Test.YtignojhijmamhaaRows
import Derived.ChangeMaps5
import Derived.ProofKit
import Derived.WalkKit
import Derived.OpenShut
import Derived.Carry
import Derived.Deep.Strs
import Derived.Deep.Slices
namespace Go.Proofs.Ytignojhijmamhaa.Ty.Vw
open Go Go.ChangeShapes Go.WideShapes Go.ChangeAt Go.RowKit Go.Deep
set_option maxRecDepth 100000
theorem cells3 : Try.prog.cellsOf 3 = 1 := by kernel_rfl
theorem cells9 : Try.prog.cellsOf 9 = 1 := by kernel_rfl
theorem cells35 : Try.prog.cellsOf 25 = 1 := by kernel_rfl
theorem cells23 : Try.prog.cellsOf 22 = 1 := by kernel_rfl
theorem cells37 : Try.prog.cellsOf 55 = 5 := by kernel_rfl
theorem cells25 : Try.prog.cellsOf 24 = 2 := by kernel_rfl
theorem fields37 : (Try.prog.fieldsOf 55).toList.map (fun f => (f.name, f.type, f.offset)) = [("Kind", 3, 0), ("N", 3, 1), ("At", 3, 2), ("Text", 9, 3), ("Kids", 25, 4)] := by kernel_rfl
theorem fields25 : (Try.prog.fieldsOf 24).toList.map (fun f => (f.name, f.type, f.offset)) = [("Nodes", 22, 0), ("Root", 3, 1)] := by kernel_rfl
theorem under37 : Try.prog.underlying 55 = some (.struct (Try.prog.fieldsOf 55)) := by kernel_rfl
theorem under25 : Try.prog.underlying 24 = some (.struct (Try.prog.fieldsOf 24)) := by kernel_rfl
theorem size37 : (Try.prog.fieldsOf 55).size = 5 := by kernel_rfl
theorem size25 : (Try.prog.fieldsOf 24).size = 2 := by kernel_rfl
theorem pick_lt {α : Type} {P : Nat → α → Prop} {m : Nat} (d : α) (h : ∀ i, i < m → ∃ q, P i q) : ∃ Q : Nat → α, ∀ i, i < m → P i (Q i) :=
  ⟨fun i => if hi : i < m then (h i hi).choose else d, fun i hi => by
    show P i (dite (i < m) _ _)
    rw [dif_pos hi]
    exact (h i hi).choose_spec⟩
theorem field_of {T : TypeId} {L : List (String × Nat × Nat)} (hL : (Try.prog.fieldsOf T).toList.map (fun f => (f.name, f.type, f.offset)) = L) {i : Nat} {n : String} {t o : Nat} (h : L[i]? = some (n, t, o)) : ∃ f, (Try.prog.fieldsOf T)[i]? = some f ∧ f.type = t ∧ f.offset = o := by
  rw [← hL, List.getElem?_map] at h
  cases hq : (Try.prog.fieldsOf T).toList[i]? with
  | none => rw [hq] at h; cases h
  | some f =>
    rw [hq] at h
    simp only [Option.map_some, Option.some.injEq, Prod.mk.injEq] at h
    exact ⟨f, by rw [← Array.getElem?_toList]; exact hq, h.2.1, h.2.2⟩
theorem add_flat (b off k : Nat) : (⟨b, off, none⟩ : Addr).add k = ⟨b, off + k, none⟩ := by simp [Addr.add]
theorem wf_le {n : Int} (h : (Lit.int .i64 n).wf = true) : n ≤ 9223372036854775807 := by
  unfold Lit.wf at h
  simp only [Bool.and_eq_true, decide_eq_true_eq] at h
  have h2 := h.2
  rw [show IntKind.i64.max = 9223372036854775807 by rfl] at h2
  exact h2
section
variable {H : Type} {enc : TypeId × Value → H} {W : World}
theorem ints_of {n : Nat} {cs : List Value} {x : DataW H × List MemPlace} (h : DataW.trod enc Try.prog W 0 (fun _ => true) true n 25 cs = some x) : ∃ (K : Option Addr) (ks : List Int) (c : Nat), cs = [.slice K ks.length c] ∧ Tr.Ints W K ks ∧ ks.length ≤ c ∧ c ≤ 9223372036854775807 := by
  rcases open_slice Try.underlying25 h with ⟨hcs, hx⟩ | ⟨a, len, cap, m, n, D, Pl, hcs, _, hl, hm, hmm, hx, hcell⟩
  · exact ⟨none, [], 0, hcs, (fun h => by simp at h), by simp, by omega⟩
  · simp only [if_true] at hmm
    subst hmm
    have each : ∀ i, i < m → ∃ q : Int, W.cell? (a.add i) = some (.int .i64 q) := fun i hi => by
      obtain ⟨cs', h1, h2⟩ := hcell i hi
      rw [cells3] at h1
      obtain ⟨_, hlen, hc⟩ := World.cells?_some h1
      obtain ⟨q, hq, _, _⟩ := DataW.trod_int Try.underlying3 h2
      refine ⟨q, ?_⟩
      have := hc 0 (by omega)
      subst hq
      simpa [Addr.add] using this
    obtain ⟨Q, hQ⟩ := pick_lt 0 each
    refine ⟨some a, (List.range len).map Q, m, by rw [hcs]; simp, fun h0 => ?_, by simpa using hl, hm⟩
    have h0' : 0 < m := by simp at h0; omega
    obtain ⟨b, off, spot⟩ := a
    have hspot : spot = none := by
      have := World.cell?_spot (hQ 0 h0')
      simpa [Addr.add] using this
    subst hspot
    refine ⟨b, off, rfl, World.block_lt_of_cell? W _ (by have := hQ 0 h0'; rw [add_flat] at this; exact this), fun j hj => ?_⟩
    have hj' : j < len := by simpa using hj
    have := hQ j (by omega)
    rw [add_flat] at this
    rw [this]; simp
set_option maxRecDepth 100000 in
theorem node_ofB {n : Nat} {cs : List Value} {x : DataW H × List MemPlace} (hlen : cs.length = 5) (h : DataW.trod enc Try.prog W 0 (fun _ => true) true n 55 cs = some x) :
    ∃ (q : Tr.Nd) (K : Option Addr) (c : Nat), cs = [.int .i64 q.kd, .int .i64 q.n, .int .i64 q.pl, .string q.tx, .slice K q.ks.length c] ∧ Tr.Ints W K q.ks ∧ (q.n ≤ 9223372036854775807 ∧ q.ks.length ≤ 9223372036854775807 ∧ q.tx.size ≤ 9223372036854775807) ∧ q.ks.length ≤ c := by
  obtain ⟨d, pl⟩ := x
  obtain ⟨xs, k, _, _, _, hxl, hel⟩ := DataW.trod_struct under37 h
  obtain ⟨f0, g0, t0, o0⟩ := field_of fields37 (i := 0) rfl
  obtain ⟨f1, g1, t1, o1⟩ := field_of fields37 (i := 1) rfl
  obtain ⟨f2, g2, t2, o2⟩ := field_of fields37 (i := 2) rfl
  obtain ⟨f3, g3, t3, o3⟩ := field_of fields37 (i := 3) rfl
  obtain ⟨f4, g4, t4, o4⟩ := field_of fields37 (i := 4) rfl
  rw [size37] at hxl
  match cs, hlen, xs, hxl with
  | [v0, v1, v2, v3, v4], _, [x0, x1, x2, x3, x4], _ =>
    have e0 := hel 0 f0 g0
    have e1 := hel 1 f1 g1
    have e2 := hel 2 f2 g2
    have e3 := hel 3 f3 g3
    have e4 := hel 4 f4 g4
    rw [t0, o0, cells3] at e0
    rw [t1, o1, cells3] at e1
    rw [t2, o2, cells3] at e2
    rw [t3, o3, cells9] at e3
    rw [t4, o4, cells35] at e4
    obtain ⟨a0, q0, _, _⟩ := DataW.trod_int Try.underlying3 e0
    obtain ⟨a1, q1, _, hw1⟩ := DataW.trod_int Try.underlying3 e1
    obtain ⟨a2, q2, _, _⟩ := DataW.trod_int Try.underlying3 e2
    obtain ⟨s3, q3, _, hs3⟩ := DataW.trod_string Try.underlying9 e3
    obtain ⟨K, ks, c, q4, hI, hKc, hcm⟩ := ints_of e4
    simp at q0 q1 q2 q3 q4
    exact ⟨(⟨a0, a1, a2, s3, ks⟩ : Tr.Nd), K, c, by rw [q0, q1, q2, q3, q4], hI, ⟨wf_le hw1, Nat.le_trans hKc hcm, hs3⟩, hKc⟩
set_option maxRecDepth 100000 in
theorem nodes_ofB {n : Nat} {cs : List Value} {x : DataW H × List MemPlace} (h : DataW.trod enc Try.prog W 0 (fun _ => true) true n 22 cs = some x) : ∃ (A : Option Addr) (l : List Tr.Nd) (c : Nat), cs = [.slice A l.length c] ∧ Tr.Nds W A l ∧ l.length ≤ c ∧ (∀ x ∈ l, x.n ≤ 9223372036854775807 ∧ x.ks.length ≤ 9223372036854775807 ∧ x.tx.size ≤ 9223372036854775807) ∧ Caps W A l := by
  rcases open_slice Try.underlying22 h with ⟨hcs, hx⟩ | ⟨a, len, cap, m, n, D, Pl, hcs, _, hl, hm, hmm, hx, hcell⟩
  · exact ⟨none, [], 0, hcs, fun h => by simp at h, by simp, (fun x hx => by cases hx), fun p bA off K m c hp => absurd hp (Nat.not_lt_zero _)⟩
  · simp only [if_true] at hmm
    subst hmm
    have each : ∀ i, i < m → ∃ q : Tr.Nd, ∃ K c, (W.cell? ((a.add (i * 5)).add 0) = some (.int .i64 q.kd) ∧ W.cell? ((a.add (i * 5)).add 1) = some (.int .i64 q.n) ∧ W.cell? ((a.add (i * 5)).add 2) = some (.int .i64 q.pl) ∧ W.cell? ((a.add (i * 5)).add 3) = some (.string q.tx) ∧ W.cell? ((a.add (i * 5)).add 4) = some (.slice K q.ks.length c)) ∧ Tr.Ints W K q.ks ∧ (q.n ≤ 9223372036854775807 ∧ q.ks.length ≤ 9223372036854775807 ∧ q.tx.size ≤ 9223372036854775807) ∧ q.ks.length ≤ c := fun i hi => by
      obtain ⟨cs', h1, h2⟩ := hcell i hi
      rw [cells37] at h1
      obtain ⟨_, hlen, hc⟩ := World.cells?_some h1
      obtain ⟨q, K, c, hq, hI⟩ := node_ofB hlen h2
      subst hq
      exact ⟨q, K, c, ⟨hc 0 (by omega), hc 1 (by omega), hc 2 (by omega), hc 3 (by omega), hc 4 (by omega)⟩, hI⟩
    obtain ⟨Q, hQ⟩ := pick_lt ⟨0, 0, 0, ⟨#[]⟩, []⟩ each
    refine ⟨some a, (List.range len).map Q, m, by rw [hcs]; simp, fun h0 => ?_, by simpa using hl, (fun x hx => by
      obtain ⟨i, hi, rfl⟩ := List.mem_map.1 hx
      obtain ⟨_, _, _, _, h, _⟩ := hQ i (by have := List.mem_range.1 hi; omega)
      exact h), fun p bA off K m2 c2 hp hA hcl _ h2 => by
      have hp' : p < len := by simpa using hp
      obtain ⟨K3, c3, ⟨_, _, _, _, e4⟩, _, _, h5⟩ := hQ p (by omega)
      rw [Option.some.inj hA, add_flat, add_flat] at e4
      have h6 := hcl.symm.trans e4
      injection h6 with h6
      injection h6 with x1 x2 x3
      omega⟩
    have h0' : 0 < m := by simp at h0; omega
    obtain ⟨b, off, spot⟩ := a
    obtain ⟨K0, c0, ⟨h00, _⟩, _⟩ := hQ 0 h0'
    have hspot : spot = none := by
      have := World.cell?_spot h00
      simpa [Addr.add] using this
    subst hspot
    have eqs : ∀ i o, (((⟨b, off, none⟩ : Addr).add (i * 5)).add o) = ⟨b, off + i * 5 + o, none⟩ := fun i o => by rw [add_flat, add_flat]
    refine ⟨b, off, rfl, World.block_lt_of_cell? W _ (by rw [eqs] at h00; exact h00), fun j hj => ?_⟩
    have hj' : j < len := by simpa using hj
    obtain ⟨K, c, ⟨e0, e1, e2, e3, e4⟩, hI, _⟩ := hQ j (by omega)
    rw [eqs] at e0 e1 e2 e3 e4
    simp only [List.getElem_map, List.getElem_range]
    exact ⟨K, c, by simpa using e0, e1, e2, e3, e4, hI⟩
set_option maxRecDepth 100000 in
theorem tree_ofB {n : Nat} {cs : List Value} {x : DataW H × List MemPlace} (hlen : cs.length = 2) (h : DataW.trod enc Try.prog W 0 (fun _ => true) true n 24 cs = some x) :
    ∃ (A : Option Addr) (l : List Tr.Nd) (c : Nat) (r : Int), cs = [.slice A l.length c, .int .i64 r] ∧ Tr.Nds W A l ∧ l.length ≤ c ∧ (∀ x ∈ l, x.n ≤ 9223372036854775807 ∧ x.ks.length ≤ 9223372036854775807 ∧ x.tx.size ≤ 9223372036854775807) ∧ Caps W A l := by
  obtain ⟨d, pl⟩ := x
  obtain ⟨xs, k, _, _, _, hxl, hel⟩ := DataW.trod_struct under25 h
  obtain ⟨f0, g0, t0, o0⟩ := field_of fields25 (i := 0) rfl
  obtain ⟨f1, g1, t1, o1⟩ := field_of fields25 (i := 1) rfl
  rw [size25] at hxl
  match cs, hlen, xs, hxl with
  | [v0, v1], _, [x0, x1], _ =>
    have e0 := hel 0 f0 g0
    have e1 := hel 1 f1 g1
    rw [t0, o0, cells23] at e0
    rw [t1, o1, cells3] at e1
    obtain ⟨A, l, c, q0, hN, hc⟩ := nodes_ofB e0
    obtain ⟨a1, q1, _, _⟩ := DataW.trod_int Try.underlying3 e1
    simp at q0 q1
    exact ⟨A, l, c, a1, by rw [q0, q1], hN, hc⟩
set_option maxRecDepth 100000 in
theorem viewTr {base : Nat} {v : Value} {d : DataW H} {p : List MemPlace} (hv : Value.okWide Try.prog W .any base 24 v) (h : DataW.Trod enc Try.prog W 0 (fun _ => true) true 24 v d p) :
    ∃ (A : Option Addr) (c : Nat) (l : List Tr.Nd) (r : Int), v = .agg #[.slice A l.length c, .int .i64 r] ∧ Tr.Nds W A l ∧ l.length ≤ c ∧ (∀ x ∈ l, x.n ≤ 9223372036854775807 ∧ x.ks.length ≤ 9223372036854775807 ∧ x.tx.size ≤ 9223372036854775807) ∧ Caps W A l := by
  obtain ⟨cs, rfl, hsz⟩ := okWide_struct under25 hv
  rw [cells25] at hsz
  obtain ⟨fuel, hf⟩ := h
  obtain ⟨A, l, c, r, e, hN, hc⟩ := tree_ofB (cs := cs.toList) (by simpa using hsz) (by simpa [Value.cells] using hf)
  exact ⟨A, c, l, r, by rw [← e], hN, hc⟩
end
end Go.Proofs.Ytignojhijmamhaa.Ty.Vw
