/- PROVED here: what a row's condition gives of an argument that is a value, or a list of acts. No condition but those in each theorem's own head. -/
import Derived.Test.YtpeodpgihmcghaaQ
import Derived.Test.YtpeodpgihmcghaaRows
import Derived.WalkKit
import Derived.ProofKit
import Derived.OpenShut
import Derived.Carry
import Derived.Deep.Strs
import Derived.Deep.Slices
import Derived.ChangeMaps5
namespace Go.Proofs.Ytpeodpgihmcghaa
open Go Go.ChangeShapes Go.WideShapes Go.ChangeAt Go.RowKit Go.Deep

theorem ownK : ownKnob Try.prog.godebug = none := by kernel_rfl
theorem laidOut : laidOutB Try.prog = true := by kernel_rfl
theorem lit4 : Try.prog.underlying 4 = some .bool := by kernel_rfl
theorem cells3 : Try.prog.cellsOf 3 = 1 := by kernel_rfl
theorem cells23 : Try.prog.cellsOf 23 = 2 := by kernel_rfl
theorem cells52 : Try.prog.cellsOf 52 = 8 := by kernel_rfl
theorem fields52 : (Try.prog.fieldsOf 52).toList.map (fun f => (f.name, f.type, f.offset)) = [("Op", 3, 0), ("N", 3, 1), ("A", 23, 2), ("I", 23, 4), ("V", 23, 6)] := by kernel_rfl
theorem under52 : Try.prog.underlying 52 = some (.struct (Try.prog.fieldsOf 52)) := by kernel_rfl
theorem size23 : (Try.prog.fieldsOf 23).size = 2 := by kernel_rfl
theorem size52 : (Try.prog.fieldsOf 52).size = 5 := by kernel_rfl
theorem pick_lt {α : Type} {P : Nat → α → Prop} {m : Nat} (d : α) (h : ∀ i, i < m → ∃ q, P i q) : ∃ Q : Nat → α, ∀ i, i < m → P i (Q i) :=
  ⟨fun i => if hi : i < m then (h i hi).choose else d, fun i hi => by
    show P i (dite (i < m) _ _)
    rw [dif_pos hi]
    exact (h i hi).choose_spec⟩
theorem field_of {T : TypeId} {L : List (String × Nat × Nat)} (hL : (Try.prog.fieldsOf T).toList.map (fun f => (f.name, f.type, f.offset)) = L) {i : Nat} {n : String} {t o : Nat} (h : L[i]? = some (n, t, o)) : ∃ f, (Try.prog.fieldsOf T)[i]? = some f ∧ f.type = t ∧ f.offset = o := by
  rw [← hL, List.getElem?_map] at h
  cases hq : (Try.prog.fieldsOf T).toList[i]? with
  | none => rw [hq] at h; cases h
  | some f =>
    rw [hq] at h
    simp only [Option.map_some, Option.some.injEq, Prod.mk.injEq] at h
    exact ⟨f, by rw [← Array.getElem?_toList]; exact hq, h.2.1, h.2.2⟩
theorem add_flat (b off k : Nat) : (⟨b, off, none⟩ : Addr).add k = ⟨b, off + k, none⟩ := by simp [Addr.add]
/-- an act: what, how many, and three values -/
structure AV where
  op : Int
  n : Int
  ak : Int
  an : Int
  ik : Int
  iN : Int
  vk : Int
  vn : Int
def AV.cs (a : AV) : List Value := [.int .i64 a.op, .int .i64 a.n, .int .i64 a.ak, .int .i64 a.an, .int .i64 a.ik, .int .i64 a.iN, .int .i64 a.vk, .int .i64 a.vn]
/-- a slice of acts -/
def Acts (w : World) (A : Option Addr) (l : List AV) : Prop := 0 < l.length → ∃ b off, A = some ⟨b, off, none⟩ ∧ b < w.heap.size ∧ ∀ j (hj : j < l.length) f, f < 8 → w.cell? ⟨b, off + j * 8 + f, none⟩ = (l[j].cs)[f]?
section
variable {H : Type} {enc : TypeId × Value → H} {W : World}
theorem value_of {n : Nat} {cs : List Value} {x : DataW H × List MemPlace} (hlen : cs.length = 2) (h : DataW.trod enc Try.prog W 0 (fun _ => true) true n 23 cs = some x) : ∃ a b : Int, cs = [.int .i64 a, .int .i64 b] := by
  obtain ⟨d, pl⟩ := x
  obtain ⟨xs, k, _, _, _, hxl, hel⟩ := DataW.trod_struct under23 h
  obtain ⟨f0, g0, t0, o0⟩ := field_of fields23 (i := 0) rfl
  obtain ⟨f1, g1, t1, o1⟩ := field_of fields23 (i := 1) rfl
  rw [size23] at hxl
  match cs, hlen, xs, hxl with
  | [v0, v1], _, [x0, x1], _ =>
    have e0 := hel 0 f0 g0
    have e1 := hel 1 f1 g1
    rw [t0, o0, cells3] at e0
    rw [t1, o1, cells3] at e1
    obtain ⟨a0, q0, _, _⟩ := DataW.trod_int Try.underlying3 e0
    obtain ⟨a1, q1, _, _⟩ := DataW.trod_int Try.underlying3 e1
    simp at q0 q1
    exact ⟨a0, a1, by rw [q0, q1]⟩
theorem act_of {n : Nat} {cs : List Value} {x : DataW H × List MemPlace} (hlen : cs.length = 8) (h : DataW.trod enc Try.prog W 0 (fun _ => true) true n 52 cs = some x) : ∃ a : AV, cs = a.cs := by
  obtain ⟨d, pl⟩ := x
  obtain ⟨xs, k, _, _, _, hxl, hel⟩ := DataW.trod_struct under52 h
  obtain ⟨f0, g0, t0, o0⟩ := field_of fields52 (i := 0) rfl
  obtain ⟨f1, g1, t1, o1⟩ := field_of fields52 (i := 1) rfl
  obtain ⟨f2, g2, t2, o2⟩ := field_of fields52 (i := 2) rfl
  obtain ⟨f3, g3, t3, o3⟩ := field_of fields52 (i := 3) rfl
  obtain ⟨f4, g4, t4, o4⟩ := field_of fields52 (i := 4) rfl
  rw [size52] at hxl
  match cs, hlen, xs, hxl with
  | [v0, v1, v2, v3, v4, v5, v6, v7], _, [x0, x1, x2, x3, x4], _ =>
    have e0 := hel 0 f0 g0
    have e1 := hel 1 f1 g1
    have e2 := hel 2 f2 g2
    have e3 := hel 3 f3 g3
    have e4 := hel 4 f4 g4
    rw [t0, o0, cells3] at e0
    rw [t1, o1, cells3] at e1
    rw [t2, o2, cells23] at e2
    rw [t3, o3, cells23] at e3
    rw [t4, o4, cells23] at e4
    obtain ⟨a0, q0, _, _⟩ := DataW.trod_int Try.underlying3 e0
    obtain ⟨a1, q1, _, _⟩ := DataW.trod_int Try.underlying3 e1
    obtain ⟨b0, b1, q2⟩ := value_of rfl e2
    obtain ⟨c0, c1, q3⟩ := value_of rfl e3
    obtain ⟨d0, d1, q4⟩ := value_of rfl e4
    simp at q0 q1 q2 q3 q4
    refine ⟨⟨a0, a1, b0, b1, c0, c1, d0, d1⟩, ?_⟩
    rw [q0, q1, q2.1, q2.2, q3.1, q3.2, q4.1, q4.2]
    rfl
theorem viewV {base : Nat} {v : Value} {d : DataW H} {p : List MemPlace} (hv : Value.okWide Try.prog W .any base 23 v) (h : DataW.Trod enc Try.prog W 0 (fun _ => true) true 23 v d p) : ∃ a b : Int, v = .agg #[.int .i64 a, .int .i64 b] := by
  obtain ⟨cs, rfl, hsz⟩ := okWide_struct under23 hv
  rw [cells23] at hsz
  obtain ⟨fuel, hf⟩ := h
  obtain ⟨a, b, e⟩ := value_of (cs := cs.toList) (by simpa using hsz) (by simpa [Value.cells] using hf)
  exact ⟨a, b, by rw [← e]⟩
theorem viewActs {base : Nat} {v : Value} {d : DataW H} {p : List MemPlace} (hv : Value.okWide Try.prog W .any base 37 v) (h : DataW.Trod enc Try.prog W 0 (fun _ => true) true 37 v d p) : ∃ (A : Option Addr) (c : Nat) (l : List AV), v = .slice A l.length c ∧ Acts W A l ∧ l.length ≤ c := by
  obtain ⟨a0, len, cap, rfl⟩ := okWide_slice Try.underlying37 hv
  obtain ⟨fuel, hf⟩ := h
  rcases open_slice Try.underlying37 hf with ⟨hcs, hx⟩ | ⟨a, len', cap', m, n, D, Pl, hcs, _, hl, hm, hmm, hx, hcell⟩
  · simp [Value.cells] at hcs
    obtain ⟨rfl, rfl, rfl⟩ := hcs
    exact ⟨none, 0, [], rfl, fun h => by simp at h, by simp⟩
  · simp [Value.cells] at hcs
    obtain ⟨rfl, rfl, rfl⟩ := hcs
    simp only [if_true] at hmm
    subst hmm
    have each : ∀ i, i < m → ∃ q : AV, ∀ f, f < 8 → W.cell? ((a.add (i * 8)).add f) = (q.cs)[f]? := fun i hi => by
      obtain ⟨cs', h1, h2⟩ := hcell i hi
      rw [cells52] at h1
      obtain ⟨_, hlen, hc⟩ := World.cells?_some h1
      obtain ⟨q, hq⟩ := act_of hlen h2
      exact ⟨q, fun f hf => by rw [← hq]; exact hc f hf⟩
    obtain ⟨Q, hQ⟩ := pick_lt ⟨0, 0, 0, 0, 0, 0, 0, 0⟩ each
    refine ⟨some a, m, (List.range len).map Q, by simp, fun h0 => ?_, by simpa using hl⟩
    have h0' : 0 < m := by simp at h0; omega
    obtain ⟨b, off, spot⟩ := a
    have h00 := hQ 0 h0' 0 (by decide)
    have hspot : spot = none := by
      have := World.cell?_spot (h00.trans (show (Q 0).cs[0]? = some (.int .i64 (Q 0).op) from rfl))
      simpa [Addr.add] using this
    subst hspot
    have eqs : ∀ i o, (((⟨b, off, none⟩ : Addr).add (i * 8)).add o) = ⟨b, off + i * 8 + o, none⟩ := fun i o => by rw [add_flat, add_flat]
    refine ⟨b, off, rfl, World.block_lt_of_cell? W _ (by have h9 := h00.trans (show (Q 0).cs[0]? = some (.int .i64 (Q 0).op) from rfl); rw [eqs] at h9; exact h9), fun j hj f hf => ?_⟩
    have hj' : j < len := by simpa using hj
    have := hQ j (by omega) f hf
    rw [eqs] at this
    simp only [List.getElem_map, List.getElem_range]
    exact this
end
theorem Acts.below {w w' : World} {A : Option Addr} {l : List AV} (h : Acts w A l) (hb : Below w.heap.size w w') : Acts w' A l := fun h0 => by
  obtain ⟨b, off, e, hl, hc⟩ := h h0
  exact ⟨b, off, e, Nat.lt_of_lt_of_le hl hb.size, fun j hj f hf => (hb.cell (p := ⟨b, off + j * 8 + f, none⟩) hl).trans (hc j hj f hf)⟩
end Go.Proofs.Ytpeodpgihmcghaa
