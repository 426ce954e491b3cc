/- PROVED here: what a row's condition gives of an argument that is a list of tokens. No condition but those in each theorem's own head. -/
import Derived.Test.YtahmadelokofbaaDoorZ
import Derived.Test.YtahmadelokofbaaDoorSk
import Derived.Deep.Slices
import Derived.Deep.Strs
namespace Go.Proofs.YtahmadelokofbaaDoor
open Go Go.ChangeShapes Go.WideShapes Go.ChangeAt Go.RowKit Go.Deep

theorem cells34 : Tryd.prog.cellsOf 34 = 4 := by kernel_rfl
theorem cells3 : Tryd.prog.cellsOf 3 = 1 := by kernel_rfl
theorem cells9 : Tryd.prog.cellsOf 9 = 1 := by kernel_rfl
theorem pick_lt {α : Type} {P : Nat → α → Prop} {m : Nat} (d : α) (h : ∀ i, i < m → ∃ q, P i q) : ∃ Q : Nat → α, ∀ i, i < m → P i (Q i) :=
  ⟨fun i => if hi : i < m then (h i hi).choose else d, fun i hi => by
    show P i (dite (i < m) _ _)
    rw [dif_pos hi]
    exact (h i hi).choose_spec⟩
theorem field34 {i : Nat} {n : String} {t o : Nat} (h : ((Tryd.prog.fieldsOf 34).toList.map (fun f => (f.name, f.type, f.offset)))[i]? = some (n, t, o)) : ∃ f, (Tryd.prog.fieldsOf 34)[i]? = some f ∧ f.type = t ∧ f.offset = o := by
  rw [List.getElem?_map] at h
  cases hq : (Tryd.prog.fieldsOf 34).toList[i]? with
  | none => rw [hq] at h; cases h
  | some f =>
    rw [hq] at h
    simp only [Option.map_some, Option.some.injEq, Prod.mk.injEq] at h
    exact ⟨f, by rw [← Array.getElem?_toList]; exact hq, h.2.1, h.2.2⟩
theorem add_flat (b off k : Nat) : (⟨b, off, none⟩ : Addr).add k = ⟨b, off + k, none⟩ := by simp [Addr.add]
theorem size34 : (Tryd.prog.fieldsOf 34).size = 4 := by kernel_rfl
/-- one token of an argument -/
theorem token_of {H : Type} {enc : TypeId × Value → H} {W : World} {n : Nat} {cs : List Value} {d : DataW H} {pl : List MemPlace} (hlen : cs.length = 4)
    (h : DataW.trod enc Tryd.prog W 0 (fun _ => true) true n 34 cs = some (d, pl)) : ∃ q : RTok, cs = [.int .i64 q.k, .int .i64 q.n, .int .i64 q.p, .string (bs q.s)] ∧ q.s.length + 1 ≤ Rows.uptoBulk d := by
  obtain ⟨xs, k, _, hD, _, hxl, hel⟩ := DataW.trod_struct under34 h
  obtain ⟨f0, g0, t0, o0⟩ := field34 (i := 0) (n := "Kind") (t := 3) (o := 0) (by rw [fields34]; rfl)
  obtain ⟨f1, g1, t1, o1⟩ := field34 (i := 1) (n := "N") (t := 3) (o := 1) (by rw [fields34]; rfl)
  obtain ⟨f2, g2, t2, o2⟩ := field34 (i := 2) (n := "At") (t := 3) (o := 2) (by rw [fields34]; rfl)
  obtain ⟨f3, g3, t3, o3⟩ := field34 (i := 3) (n := "Text") (t := 9) (o := 3) (by rw [fields34]; rfl)
  rw [size34] at hxl
  match cs, hlen, xs, hxl with
  | [v0, v1, v2, v3], _, [x0, x1, x2, x3], _ =>
    have e0 := hel 0 f0 g0
    have e1 := hel 1 f1 g1
    have e2 := hel 2 f2 g2
    have e3 := hel 3 f3 g3
    rw [t0, o0, cells3] at e0
    rw [t1, o1, cells3] at e1
    rw [t2, o2, cells3] at e2
    rw [t3, o3, cells9] at e3
    obtain ⟨a0, q0, _, _⟩ := DataW.trod_int Tryd.underlying3 e0
    obtain ⟨a1, q1, _, _⟩ := DataW.trod_int Tryd.underlying3 e1
    obtain ⟨a2, q2, _, _⟩ := DataW.trod_int Tryd.underlying3 e2
    obtain ⟨s3, q3, r3, _⟩ := DataW.trod_string Tryd.underlying9 e3
    simp at q0 q1 q2 q3
    refine ⟨⟨a0, a1, a2, s3.data.toList⟩, by rw [q0, q1, q2, q3, bs_of], ?_⟩
    simp only [Prod.mk.injEq] at hD
    have hx3 : x3.1 = .lit (.string s3.data.toList) := by rw [r3]
    rw [hD.1]
    simp only [List.map_cons, List.map_nil, Rows.uptoBulk, Rows.uptoBulkAll, hx3]
    omega
theorem tot_map {H : Type} (Q : Nat → RTok) (D : Nat → DataW H) : ∀ L : List Nat, (∀ i ∈ L, (Q i).s.length + 1 ≤ Rows.uptoBulk (D i)) → tot (L.map Q) ≤ Rows.uptoBulkAll (L.map D)
  | [], _ => by simp [tot]
  | i :: L, h => by
    have ih := tot_map Q D L (fun j hj => h j (List.mem_cons_of_mem _ hj))
    have h1 := h i (by simp)
    simp only [List.map_cons, Rows.uptoBulkAll, tot, List.sum_cons] at ih ⊢
    omega
theorem viewT {H : Type} {enc : TypeId × Value → H} {W : World} {base : Nat} {v : Value} {d : DataW H} {p : List MemPlace} (hv : Value.okWide Tryd.prog W .any base 23 v)
    (h : DataW.Trod enc Tryd.prog W 0 (fun _ => true) true 23 v d p) : ∃ (A : Option Addr) (c : Nat) (l : List RTok), v = .slice A l.length c ∧ RToks W A l ∧ tot l ≤ Rows.uptoBulk d := by
  obtain ⟨a0, len, cap, rfl⟩ := okWide_slice Tryd.underlying23 hv
  obtain ⟨fuel, hf⟩ := h
  rcases open_slice Tryd.underlying23 hf with ⟨hcs, hx⟩ | ⟨a, len', cap', m, n, D, Pl, hcs, _, hl, hm, hmm, hx, hcell⟩
  · simp [Value.cells] at hcs
    obtain ⟨rfl, rfl, rfl⟩ := hcs
    exact ⟨none, 0, [], rfl, fun h => by simp at h, by simp [tot]⟩
  · simp [Value.cells] at hcs
    obtain ⟨rfl, rfl, rfl⟩ := hcs
    simp only [if_true] at hmm
    subst hmm
    have each : ∀ i, i < m → ∃ q : RTok, (W.cell? ((a.add (i * 4)).add 0) = some (.int .i64 q.k) ∧ W.cell? ((a.add (i * 4)).add 1) = some (.int .i64 q.n) ∧ W.cell? ((a.add (i * 4)).add 2) = some (.int .i64 q.p) ∧ W.cell? ((a.add (i * 4)).add 3) = some (.string (bs q.s))) ∧ q.s.length + 1 ≤ Rows.uptoBulk (D i) := fun i hi => by
      obtain ⟨cs', h1, h2⟩ := hcell i hi
      rw [cells34] at h1
      obtain ⟨_, hlen, hc⟩ := World.cells?_some h1
      obtain ⟨q, hq, hb⟩ := token_of hlen h2
      subst hq
      exact ⟨q, ⟨hc 0 (by omega), hc 1 (by omega), hc 2 (by omega), hc 3 (by omega)⟩, hb⟩
    obtain ⟨Q, hQ⟩ := pick_lt ⟨0, 0, 0, []⟩ each
    refine ⟨some a, m, (List.range len).map Q, by simp, fun h0 => ?_, ?_⟩
    · have h0' : 0 < m := by simp at h0; omega
      obtain ⟨b, off, spot⟩ := a
      have hspot : spot = none := by
        have := World.cell?_spot (hQ 0 h0').1.1
        simpa [Addr.add] using this
      subst hspot
      have eqs : ∀ i o, (((⟨b, off, none⟩ : Addr).add (i * 4)).add o) = ⟨b, off + i * 4 + o, none⟩ := fun i o => by rw [add_flat, add_flat]
      refine ⟨b, off, rfl, World.block_lt_of_cell? W _ (by have := (hQ 0 h0').1.1; rw [eqs] at this; exact this), fun j hj => ?_⟩
      have hj' : j < len := by simpa using hj
      obtain ⟨⟨c0, c1, c2, c3⟩, _⟩ := hQ j (by omega)
      rw [eqs] at c0 c1 c2 c3
      simp only [List.getElem_map, List.getElem_range]
      exact ⟨by simpa using c0, c1, c2, c3⟩
    · simp only [Prod.mk.injEq] at hx
      rw [hx.1]
      have := tot_map Q D (List.range len) (fun i hi => (hQ i (by have := List.mem_range.1 hi; omega)).2)
      simp only [Rows.uptoBulk]
      omega
end Go.Proofs.YtahmadelokofbaaDoor
