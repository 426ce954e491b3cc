/- PROVED here: parts VaF of the claim. No condition but those in each theorem's own head. -/
import Derived.Test.YtignojhijmamhaaK31
namespace Go.Proofs.Ytignojhijmamhaa.Va
open Go Go.RowKit
def ints (l : List Int) : List Value := l.map (Value.int .i64)
theorem ints_len (l : List Int) : (ints l).length = l.length := List.length_map _
theorem ints_get {l : List Int} {j : Nat} (hj : j < l.length) : (ints l)[j]? = some (.int .i64 l[j]) := by simp [ints, hj]
theorem ints_set (l : List Int) (j : Nat) (x : Int) : (ints l).set j (.int .i64 x) = ints (l.set j x) := by simp [ints, List.map_set]
def cellsL : List (List Int) → Int
  | [] => 0
  | l :: r => (l.length : Int) + 1 + cellsL r
theorem cells_app (a b : List (List Int)) : cellsL (a ++ b) = cellsL a + cellsL b := by
  induction a with
  | nil => simp [cellsL]
  | cons x a ih => show _ + _ + cellsL (a ++ b) = _; rw [ih]; simp only [cellsL]; omega
theorem cells_ge (L : List (List Int)) : (L.length : Int) ≤ cellsL L := by
  induction L with
  | nil => simp [cellsL]
  | cons x a ih => simp only [cellsL, List.length_cons]; omega
theorem cells_set : ∀ (L : List (List Int)) (i : Nat) (l : List Int), (∀ hi : i < L.length, L[i].length = l.length) → cellsL (L.set i l) = cellsL L
  | [], _, _, _ => rfl
  | x :: r, 0, l, h => by have := h (by simp); simp only [List.set_cons_zero, cellsL]; simp at this; omega
  | x :: r, i + 1, l, h => by
    simp only [List.set_cons_succ, cellsL]
    rw [cells_set r i l (fun hi => by have := h (by simpa using hi); simpa using this)]
theorem cells_take_succ {L : List (List Int)} {k : Nat} (hk : k < L.length) : cellsL (L.take (k + 1)) = cellsL (L.take k) + ((L[k].length : Int) + 1) := by
  rw [List.take_succ_eq_append_getElem hk, cells_app]; simp [cellsL]
theorem cells_take_le (L : List (List Int)) (k : Nat) : cellsL (L.take k) ≤ cellsL L := by
  have h := cells_app (L.take k) (L.drop k)
  rw [List.take_append_drop] at h
  have := cells_ge (L.drop k)
  omega
theorem cells_row {L : List (List Int)} {k : Nat} (hk : k < L.length) : (L[k].length : Int) ≤ cellsL L := by
  have h1 := cells_take_succ hk
  have h2 := cells_take_le L (k + 1)
  have h3 := cells_ge (L.take k)
  omega
def newV (L : List (List Int)) (n : Int) : (Int × Int) × Int × Bool := if n < 0 ∨ 65536 < n then ((0, 0), 4, true) else if 262144 < cellsL L + (n + 1) then ((0, 0), 0, false) else ((3, (L.length : Int) + 1), 0, true)
def newH (L : List (List Int)) (n : Int) : List (List Int) := if n < 0 ∨ 65536 < n then L else if 262144 < cellsL L + (n + 1) then L else L ++ [List.replicate n.toNat 0]
def hasB (L : List (List Int)) (k n : Int) : Bool := decide (k = 3) && (decide (1 ≤ n) && decide (n ≤ (L.length : Int)))
def rowAt (L : List (List Int)) (n : Int) : List Int := L.getD (n - 1).toNat []
def lenH (L : List (List Int)) (k n : Int) : Int := if hasB L k n then ((rowAt L n).length : Int) else 0
def wrongH (L : List (List Int)) (k n j i : Int) : Int := if hasB L k n then (if j = 1 ∧ 0 ≤ i ∧ i < ((rowAt L n).length : Int) then 0 else 2) else 3
def getV (L : List (List Int)) (k n j i : Int) : (Int × Int) × Int := if wrongH L k n j i = 0 then ((1, (rowAt L n).getD i.toNat 0), 0) else ((0, 0), wrongH L k n j i)
def setH (L : List (List Int)) (k n j i vk vn : Int) : List (List Int) := if wrongH L k n j i = 0 ∧ vk = 1 then L.set (n - 1).toNat ((rowAt L n).set i.toNat vn) else L
theorem has_yes {L : List (List Int)} {k n : Int} (h : hasB L k n = true) : k = 3 ∧ 1 ≤ n ∧ n ≤ (L.length : Int) := by simpa [hasB] using h
theorem has_at {L : List (List Int)} {k n : Int} (h : hasB L k n = true) : ∃ i : Nat, n = (i : Int) + 1 ∧ ∃ hi : i < L.length, rowAt L n = L[i] := by
  obtain ⟨_, h1, h2⟩ := has_yes h
  refine ⟨(n - 1).toNat, by omega, by omega, ?_⟩
  unfold rowAt
  rw [List.getD_eq_getElem?_getD, List.getElem?_eq_getElem (show (n - 1).toNat < L.length by omega)]
  rfl
theorem wrong_zero {L : List (List Int)} {k n j i : Int} (h : wrongH L k n j i = 0) : hasB L k n = true ∧ j = 1 ∧ 0 ≤ i ∧ i < ((rowAt L n).length : Int) := by
  unfold wrongH at h
  cases hb : hasB L k n with
  | false => rw [hb] at h; simp at h
  | true =>
    rw [hb] at h
    by_cases hc : j = 1 ∧ 0 ≤ i ∧ i < ((rowAt L n).length : Int)
    · exact ⟨rfl, hc⟩
    · simp [hc] at h
structure Fr (F : Nat → Prop) (w w' : World) : Prop where
  os : w'.os = w.os
  tape : w'.tape = w.tape
  output : w'.output = w.output
  size : w.heap.size ≤ w'.heap.size
  block : ∀ b, b < w.heap.size → ¬ F b → w'.heap[b]? = w.heap[b]?
theorem Fr.refl (F : Nat → Prop) (w : World) : Fr F w w := ⟨rfl, rfl, rfl, Nat.le_refl _, fun _ _ _ => rfl⟩
theorem Fr.trans {F G : Nat → Prop} {a b c : World} (h : Fr F a b) (k : Fr G b c) (hG : ∀ x, G x → F x ∨ a.heap.size ≤ x) : Fr F a c :=
  ⟨k.os.trans h.os, k.tape.trans h.tape, k.output.trans h.output, Nat.le_trans h.size k.size, fun x hx hn => (k.block x (Nat.lt_of_lt_of_le hx h.size) (fun hg => (hG x hg).elim hn (by omega))).trans (h.block x hx hn)⟩
theorem Fr.of_below {F : Nat → Prop} {a b : World} (h : Below a.heap.size a b) : Fr F a b := ⟨h.os, h.tape, h.output, h.size, fun x hx _ => h.block x hx⟩
theorem Fr.to_below {F : Nat → Prop} {a b : World} (h : Fr F a b) {B : Nat} (hB : B ≤ a.heap.size) (hF : ∀ x, F x → B ≤ x) : Below B a b :=
  ⟨h.os, h.tape, h.output, h.size, fun x hx => h.block x (by omega) (fun hf => by have := hF x hf; omega)⟩
theorem Fr.mono {F G : Nat → Prop} {a b : World} (h : Fr F a b) (hG : ∀ x, F x → G x) : Fr G a b := ⟨h.os, h.tape, h.output, h.size, fun x hx hn => h.block x hx (fun hf => hn (hG x hf))⟩
theorem Fr.drew {F : Nat → Prop} {a b : World} (h : Fr F a b) : Fr F a b.drew := ⟨h.os, h.tape, h.output, h.size, h.block⟩
theorem Bx.fr {w w' : World} {b : Nat} {t : TypeId} {l : List Value} (h : Bx w b t l) {F : Nat → Prop} (k : Fr F w w') (hn : ¬ F b) : Bx w' b t l := (k.block b h.lt hn).trans h
theorem own_lt {w : World} {base : Nat} {e : TypeId} {size n : Nat} {v : Value} {xs : List Value} (h : w.ownsRow base e size v n xs) {k : Nat} (hk : v.ownBlock = some k) : k < w.heap.size := (h.lt k hk).2
theorem own_fr {w w' : World} {base : Nat} {e : TypeId} {size n : Nat} {v : Value} {xs : List Value} (h : w.ownsRow base e size v n xs) {F : Nat → Prop} (k : Fr F w w') (hn : ∀ b, v.ownBlock = some b → ¬ F b) : w'.ownsRow base e size v n xs := by
  refine ⟨h.1, h.2.imp id ?_⟩
  rintro ⟨g, cap, cur, h1, h2, h3, h4⟩
  exact ⟨g, cap, cur, h1, h2, (k.block g (Array.getElem?_eq_some_iff.1 h3).1 (hn g (by rw [h1]; rfl))).trans h3, h4⟩
theorem own_below {w w' : World} {base : Nat} {e : TypeId} {size n : Nat} {v : Value} {xs : List Value} (h : w.ownsRow base e size v n xs) (hb : Below w.heap.size w w') : w'.ownsRow base e size v n xs := own_fr h (F := fun _ => False) (Fr.of_below hb) (fun _ _ => id)
theorem own_ne {w : World} {b1 b2 : Nat} {e1 e2 : TypeId} {s1 s2 n1 n2 : Nat} {v1 v2 : Value} {x1 x2 : List Value} (h1 : w.ownsRow b1 e1 s1 v1 n1 x1) (h2 : w.ownsRow b2 e2 s2 v2 n2 x2) (hne : e1 ≠ e2) {k : Nat} (hk : v1.ownBlock = some k) : v2.ownBlock ≠ some k := by
  rcases h1.2 with ⟨rfl, _⟩ | ⟨g1, c1, cur1, rfl, _, g1h, _⟩
  · cases hk
  · rcases h2.2 with ⟨rfl, _⟩ | ⟨g2, c2, cur2, rfl, _, g2h, _⟩
    · intro h; cases h
    · intro h
      simp only [Value.ownBlock, Option.some.injEq] at hk h
      subst hk
      rw [h] at g2h
      rw [g1h] at g2h
      injection g2h with g2h
      injection g2h with _ h3
      exact hne h3
theorem own_bx_ne {w : World} {b1 : Nat} {e1 t : TypeId} {s1 n1 : Nat} {v1 : Value} {x1 l : List Value} (h1 : w.ownsRow b1 e1 s1 v1 n1 x1) {g : Nat} (h2 : Bx w g t l) (hne : e1 ≠ t) : v1.ownBlock ≠ some g := by
  rcases h1.2 with ⟨rfl, _⟩ | ⟨g1, c1, cur1, rfl, _, g1h, _⟩
  · intro h; cases h
  · intro h
    simp only [Value.ownBlock, Option.some.injEq] at h
    subst h
    unfold Bx at h2
    rw [g1h] at h2
    injection h2 with h2
    injection h2 with _ h3
    exact hne h3
structure Ars (w : World) (base : Nat) (v : Value) (vs : List Value) (L : List (List Int)) : Prop where
  len : vs.length = L.length
  own : w.ownsRow base 25 1 v L.length vs
  row : ∀ i (hi : i < vs.length) (hl : i < L.length), w.ownsRow base 3 1 vs[i] L[i].length (ints L[i])
  ne : ∀ i j (hi : i < vs.length) (hj : j < vs.length), i ≠ j → ∀ k, vs[i].ownBlock = some k → vs[j].ownBlock ≠ some k
def Fp (g : Nat) (v : Value) (vs : List Value) (b : Nat) : Prop := b = g ∨ v.ownBlock = some b ∨ ∃ x ∈ vs, x.ownBlock = some b
theorem Ars.fr {w w' : World} {base : Nat} {v : Value} {vs : List Value} {L : List (List Int)} (h : Ars w base v vs L) {F : Nat → Prop} (k : Fr F w w') (g : Nat) (hn : ∀ b, Fp g v vs b → ¬ F b) : Ars w' base v vs L :=
  ⟨h.len, own_fr h.own k (fun b hb => hn b (.inr (.inl hb))), fun i hi hl => own_fr (h.row i hi hl) k (fun b hb => hn b (.inr (.inr ⟨_, List.getElem_mem hi, hb⟩))), h.ne⟩
theorem Ars.lt {w : World} {base : Nat} {v : Value} {vs : List Value} {L : List (List Int)} (h : Ars w base v vs L) {g b : Nat} (hg : g < w.heap.size) (hb : Fp g v vs b) : b < w.heap.size := by
  rcases hb with rfl | hb | ⟨x, hx, hb⟩
  · exact hg
  · exact own_lt h.own hb
  · obtain ⟨i, hi, rfl⟩ := List.mem_iff_getElem.1 hx
    exact own_lt (h.row i hi (by rw [← h.len]; exact hi)) hb
theorem Ars.ge {w : World} {base : Nat} {v : Value} {vs : List Value} {L : List (List Int)} (h : Ars w base v vs L) {g b : Nat} (hg : base ≤ g) (hb : Fp g v vs b) : base ≤ b := by
  rcases hb with rfl | hb | ⟨x, hx, hb⟩
  · exact hg
  · exact (h.own.lt _ hb).1
  · obtain ⟨i, hi, rfl⟩ := List.mem_iff_getElem.1 hx
    exact ((h.row i hi (by rw [← h.len]; exact hi)).lt _ hb).1
structure Hp (T : TypeId) (C : List (List Int) → List Value) (w : World) (base g : Nat) (v : Value) (vs : List Value) (L : List (List Int)) : Prop where
  bx : Bx w g T (v :: C L)
  ar : Ars w base v vs L
  cap : cellsL L ≤ 262144
  ge : base ≤ g
def C46 (L : List (List Int)) : List Value := [.int .i64 (cellsL L)]
section
variable {T : TypeId} {C : List (List Int) → List Value} {w w' : World} {base g : Nat} {v : Value} {vs : List Value} {L : List (List Int)}
theorem Hp.fr (h : Hp T C w base g v vs L) {F : Nat → Prop} (k : Fr F w w') (hn : ∀ b, Fp g v vs b → ¬ F b) : Hp T C w' base g v vs L :=
  ⟨h.bx.fr k (hn g (.inl rfl)), h.ar.fr k g hn, h.cap, h.ge⟩
theorem Hp.below (h : Hp T C w base g v vs L) (hb : Below w.heap.size w w') : Hp T C w' base g v vs L := h.fr (F := fun _ => False) (Fr.of_below hb) (fun _ _ => id)
theorem Hp.lt (h : Hp T C w base g v vs L) {b : Nat} (hb : Fp g v vs b) : b < w.heap.size := h.ar.lt h.bx.lt hb
theorem Hp.foot (h : Hp T C w base g v vs L) {b : Nat} (hb : Fp g v vs b) : base ≤ b := h.ar.ge h.ge hb
theorem Hp.few (h : Hp T C w base g v vs L) : L.length ≤ 262144 := by have := cells_ge L; have := h.cap; omega
theorem Hp.slice (h : Hp T C w base g v vs L) : ∃ A c, v = .slice A L.length c := by
  rcases h.ar.own.2 with ⟨e1, e2⟩ | ⟨g1, cap, cur, e1, _⟩
  · exact ⟨none, 0, by rw [e1, e2]⟩
  · exact ⟨_, _, e1⟩
theorem Hp.row (h : Hp T C w base g v vs L) {i : Nat} (hi : i < L.length) : ∃ b c, v = .slice (some ⟨b, 0, none⟩) L.length c ∧ b < w.heap.size ∧ ∃ A d, w.cell? ⟨b, i, none⟩ = some (.slice A L[i].length d) ∧ (∀ j (hj : j < L[i].length), ∃ r, A = some ⟨r, 0, none⟩ ∧ r < w.heap.size ∧ w.cell? ⟨r, j, none⟩ = some (.int .i64 L[i][j]) ∧ w.frozen? ⟨r, j, none⟩ = false) := by
  have hiv : i < vs.length := by rw [h.ar.len]; exact hi
  have ho := h.ar.own
  have hr := h.ar.row i hiv hi
  rcases ho.2 with ⟨_, e2⟩ | ⟨b, c, cur, e1, hb, hg, _⟩
  · omega
  · refine ⟨b, c, e1, (Array.getElem?_eq_some_iff.1 hg).1, ?_⟩
    rw [e1] at ho
    have hc := ho.cellAt i (by omega)
    rw [List.getElem?_eq_getElem hiv] at hc
    rcases hr.2 with ⟨e3, e4⟩ | ⟨r, d, cur2, e3, _, hg2, _⟩
    · exact ⟨none, 0, by rw [hc, e3, e4], fun j hj => by omega⟩
    · refine ⟨some ⟨r, 0, none⟩, d, by rw [hc, e3], fun j hj => ⟨r, rfl, (Array.getElem?_eq_some_iff.1 hg2).1, ?_, ?_⟩⟩
      · rw [e3] at hr
        rw [hr.cellAt j (by omega)]
        exact ints_get hj
      · rw [e3] at hr
        exact hr.frozenAt j
end
end Go.Proofs.Ytignojhijmamhaa.Va
