/-
  PROVED: for any tree and any list of numbers the law ValueTypes (where the tree is taken, and each name that means something at an expression is worth something of its type, the expression's value is of its type, or what is raised is one of three, with no value) returns true, and each argument reads as before.
  CONDITIONS: those that the given row prints: each argument can be read as data.
-/
import Derived.Test.YtignojhijmamhaaRows
import Derived.Test.YtignojhijmamhaaK28
import Derived.Test.YtignojhijmamhaaK38
import Derived.Test.YtignojhijmamhaaK46
namespace Go.Proofs.Ytignojhijmamhaa
open Go Go.ChangeShapes Go.WideShapes Go.ChangeAt Go.RowKit
open Va (ownK laidOut lit4)

set_option maxRecDepth 100000 in
theorem viewInts {H : Type} {enc : TypeId × Value → H} {W : World} {base : Nat} {v : Value} {d : DataW H} {p : List MemPlace} (hv : Value.okWide Try.prog W .any base 25 v) (h : DataW.Trod enc Try.prog W 0 (fun _ => true) true 25 v d p) : ∃ (A : Option Addr) (c : Nat) (l : List Int), v = .slice A l.length c ∧ Ty.Tr.Ints W A l := by
  obtain ⟨a0, len, cap, rfl⟩ := okWide_slice Try.underlying25 hv
  obtain ⟨fuel, hf⟩ := h
  obtain ⟨K, ks, c, e, hI, _⟩ := Ty.Vw.ints_of hf
  simp [Value.cells] at e
  exact ⟨K, c, ks, by rw [e.1, e.2.1, e.2.2], hI⟩
set_option maxRecDepth 100000 in
theorem valueTypes_lifted (os : Os) (started : os.Started) (H : Type) (enc : TypeId × Value → H) :
    ReturnsInHanded {} Try.checked os 3 .any (Rows.valueTypesSpec.pre6 enc Try.prog Try.f3 Rows.valueTypesRow.domain false) (Rows.valueTypesSpec.post enc Try.prog Try.f3 false true false false) := by
  refine returnsInHanded_of_change (C := Try.checked) ownK started (by kernel_rfl) Try.func3
    (ChangeSpec.witness6 (enc := enc) (C := Try.checked) false ⟨#[], #[.agg #[.slice none 0 0, .int .i64 0], .slice none 0 0], []⟩ 8 (by kernel_rfl) (by kernel_rfl) (by kernel_rfl) (by kernel_rfl)) ?_
  intro W base args ds gs before hval0 hW _ _
  have hval : ∀ (j : Nat) t v, Try.f3.params[j]? = some t → args[j]? = some v → Value.okWide Try.prog W .any base t v := hval0
  have hW' := hW
  obtain ⟨p, q, hA0, hV, rfl, hfz, hnd⟩ := hW
  have hA : DataW.TrodAll enc Try.prog W 0 (fun _ => true) true Try.f3.params.toList args.toList ds p := hA0
  rw [Try.params3] at hA hval
  obtain ⟨v0, vs0, d0, ds0, p0, q0, hargs, rfl, rfl, h0, r0⟩ := trodAll_cons hA
  obtain ⟨v1, vs1, d1, ds1, p1, q1, rfl, rfl, rfl, h1, r1⟩ := trodAll_cons r0
  obtain ⟨rfl, rfl, rfl⟩ := trodAll_nil r1
  obtain rfl : args = #[v0, v1] := by cases args; simp_all
  obtain ⟨rfl, rfl⟩ := trodVars_none hV
  clear hA0 hval0
  simp only [List.append_nil] at hW'
  have hlt : ∀ x ∈ p0 ++ p1, x.block < W.heap.size := fun x hx => by simpa using hW'.lt x (by simpa using hx)
  obtain ⟨A0, c0, l0, t0, rfl, hN0, hc0, hm0, hC0⟩ := Ty.Vw.viewTr (hval 0 24 v0 rfl rfl) h0
  obtain ⟨A1, c1, l1, rfl, hT1⟩ := viewInts (hval 1 25 v1 rfl rfl) h1
  refine (valueTypes_w A0 c0 l0.length l0 t0 A1 c1 l1 W ⟨hN0, rfl, hm0, hC0⟩ hT1).mono ?_
  rintro e W' ⟨rfl, hnx⟩
  refine ⟨_, rfl, _, _, _, [], _, [], hW', trodAll_cons_mk (shut_bool lit4 _) trodAll_mk0, trodAll_cons_mk (Below.trod laidOut (by kernel_rfl) (of_decide_eq_true (by kernel_rfl)) h0 hnx (fun x hx => hlt x (by simp [hx]))) (trodAll_cons_mk (Below.trod laidOut (by kernel_rfl) (of_decide_eq_true (by kernel_rfl)) h1 hnx (fun x hx => hlt x (by simp [hx]))) trodAll_mk0), rfl, hnx.frame _, fun h => by cases h⟩

theorem valueTypes_holds : Rows.ValueTypesSaid :=
  OpenClaim.holds_of_wide 3 Try.f3 rfl rfl rfl rfl rfl rfl rfl ⟨rfl, rfl, rfl, rfl, rfl⟩ rfl rfl rfl rfl rfl (by kernel_rfl) Try.func3 (by kernel_rfl)
    (of_decide_eq_true (by kernel_rfl)) (by unfold Func.isWrapper; first | (rw [if_pos (by decide +kernel)]; kernel_rfl) | (rw [if_neg (by decide +kernel)]; exact ⟨rfl, rfl⟩))
    (fun os started H enc _ => valueTypes_lifted os started H enc)
#print axioms valueTypes_holds
end Go.Proofs.Ytignojhijmamhaa
