/- PROVED here: the table of shapes, kind by kind: begun. No condition but those in each theorem's own head. -/
import Derived.Test.YtcnmkmdedeiffaaTw
namespace Go.Proofs.Ytcnmkmdedeiffaa
open Go Go.RowKit

/-- a cell that holds a slice of parts -/
def RowAt (w : World) (g : Nat) (ps : List Pt) : Prop := ∃ A m c, w.cell? ⟨g, 0, none⟩ = some (.slice A m c) ∧ Parts w A ps ∧ m = ps.length ∧ g < w.heap.size
theorem RowAt.below {w w' : World} {g : Nat} {ps : List Pt} (h : RowAt w g ps) (hb : Below w.heap.size w w') : RowAt w' g ps := by
  obtain ⟨A, m, c, h1, h2, h3, h4⟩ := h
  exact ⟨A, m, c, (hb.cell (p := ⟨g, 0, none⟩) h4).trans h1, h2.below hb, h3, Nat.lt_of_lt_of_le h4 hb.size⟩
/-- the function that a kind's text has to pass -/
def txF (kd : Int) : Nat :=
  if kd = 2 ∨ kd = 3 ∨ kd = 4 ∨ kd = 5 ∨ kd = 7 ∨ kd = 8 ∨ kd = 9 ∨ kd = 16 ∨ kd = 17 ∨ kd = 18 ∨ kd = 19 ∨ kd = 22 ∨ kd = 23 ∨ kd = 24 ∨ kd = 25 then 43
  else if kd = 13 then 45 else if kd = 26 then 47 else if kd = 27 then 48 else 40
def loB (kd : Int) : Int := if kd = 2 ∨ kd = 4 ∨ kd = 5 then 1 else 0
def hiB (kd : Int) : Int := if kd = 2 ∨ kd = 3 ∨ kd = 4 ∨ kd = 5 then 4 else if kd = 20 then 9223372036854775807 else if kd = 21 then 1 else 0
theorem own43 : Own 43 := ⟨_, Try.func43, by kernel_rfl, by kernel_rfl⟩
theorem own45 : Own 45 := ⟨_, Try.func45, by kernel_rfl, by kernel_rfl⟩
theorem own47 : Own 47 := ⟨_, Try.func47, by kernel_rfl, by kernel_rfl⟩
theorem own48 : Own 48 := ⟨_, Try.func48, by kernel_rfl, by kernel_rfl⟩
theorem own40 : Own 40 := ⟨_, Try.func40, by kernel_rfl, by kernel_rfl⟩
theorem txF_own (kd : Int) : Own (txF kd) := by
  unfold txF
  split
  · exact own43
  split
  · exact own45
  split
  · exact own47
  split
  · exact own48
  · exact own40
theorem txF_calls (kd : Int) (s : ByteArray) (w : World) (hmax : s.size ≤ 281474976710656) : Calls Try.prog (txF kd) #[.string s] w (BPost (txB kd s.data.toList) w) := by
  unfold txF txB
  split
  · exact (ident_any s w hmax).mono fun e w' h => ⟨h.1, by rw [← h.2]; exact Below.refl _ _⟩
  split
  · exact isNameOrEmpty_any s w hmax
  split
  · exact isUnary_any s w
  split
  · exact isBinary_any s w
  · exact isEmpty_any s w
theorem num_lohi (kd n : Int) (hn : n ≤ 9223372036854775807) : (decide (loB kd ≤ n) && decide (n ≤ hiB kd)) = numB kd n := by
  unfold loB hiB numB
  rw [Bool.eq_iff_iff]
  split <;> split <;> (try split) <;> (try split) <;> (try split) <;> simp <;> omega
def ShPost (kd : Int) (w : World) (e : Ending) (w' : World) : Prop :=
  ∃ g, e = .returned (.tuple #[.agg #[.func (.func (txF kd)) #[] #[], .int .i64 (loB kd), .int .i64 (hiB kd), .func (.func 56) #[] #[.pointer (some ⟨g, 0, none⟩)]], .bool true]) ∧ RowAt w' g (partsOf kd) ∧ Below w.heap.size w w'
theorem st_func (W : World) (b off : Nat) (F : Fn) (xs ys : Array Value) (h : (W.cell? ⟨b, off, none⟩).isSome = true) (hf : W.frozen? ⟨b, off, none⟩ = false) : (store ⟨b, off, none⟩ (.func F xs ys)).run Try.prog W = .ok () (W.setCell ⟨b, off, none⟩ (.func F xs ys)) := by
  obtain ⟨u, hu⟩ := Option.isSome_iff_exists.1 h
  rw [run_store _ _ _ _ _ rfl, hu]; simp [hf]
/-- parts, as they lie in one block -/
theorem parts_of {w : World} {b : Nat} {ps : List Pt} (hb : b < w.heap.size) (h : ∀ j (hj : j < ps.length), ∃ F ys, w.cell? ⟨b, j * 3, none⟩ = some (.func (.func F) #[] ys) ∧ w.cell? ⟨b, j * 3 + 1, none⟩ = some (.int .i64 (ps[j].lo : Int)) ∧
    w.cell? ⟨b, j * 3 + 2, none⟩ = some (.int .i64 (ps[j].hi : Int)) ∧ FitV w F ys ps[j].f ∧ ps[j].hi ≤ 9223372036854775807) : Parts w (some ⟨b, 0, none⟩) ps := fun _ => ⟨b, 0, rfl, hb, fun j hj => by
  obtain ⟨F, ys, h1, h2, h3, h4⟩ := h j hj
  rw [Nat.zero_add]
  exact ⟨F, ys, h1, h2, h3, h4⟩⟩
theorem far4 {W : World} {g b : Nat} {t : TypeId} {l l' : List Value} (hR : Bx W g 50 l) (h : Bx W b t l') (ht : t ≠ 50) (u0 u1 u2 u3 : Value) : Bx ((((W.setCell ⟨g, 0, none⟩ u0).setCell ⟨g, 1, none⟩ u1).setCell ⟨g, 2, none⟩ u2).setCell ⟨g, 3, none⟩ u3) b t l' := by
  have hn : b ≠ g := fun e => by
    subst e
    have h2 := h.symm.trans hR
    simp only [Option.some.injEq, Obj.cells.injEq] at h2
    exact ht h2.2.1
  exact (((h.far (p := ⟨g, 0, none⟩) hn u0).far (p := ⟨g, 1, none⟩) hn u1).far (p := ⟨g, 2, none⟩) hn u2).far (p := ⟨g, 3, none⟩) hn u3
/-- what lies behind the head of the table -/
def HeadR (w : World) (g4 g5 : Nat) (W : World) : Prop := ∃ gb, Bx W w.heap.size 50 [.nilFunc, .int .i64 0, .int .i64 0, .nilFunc] ∧ Bx W g4 58 [.func (.func 38) #[] #[], .int .i64 1, .int .i64 1] ∧
  Bx W g5 58 [.func (.func 55) #[] #[.pointer (some ⟨gb, 0, none⟩)], .int .i64 1, .int .i64 1] ∧ Bx W gb 3 [.int .i64 6] ∧ Below w.heap.size w W
end Go.Proofs.Ytcnmkmdedeiffaa
