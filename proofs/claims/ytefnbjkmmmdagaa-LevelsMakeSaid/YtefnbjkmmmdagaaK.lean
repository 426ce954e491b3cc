/- PROVED here: words for a lattice's block; the contract of fillTables. No condition but those in each theorem's own head. -/
import Derived.Test.YtefnbjkmmmdagaaJ
namespace Go.Proofs.Ytefnbjkmmmdagaa
open Go Go.RowKit

/-- the cells of a lattice, whatever its lock holds -/
def latS (v1 v2 v3 : Value) (dn : Nat) (st : Int) (f : Nat → Int) : Array Value := #[v1, v2, v3, .int .u32 (dn : Int), .int .i32 st, .int .u32 0] ++ Array.ofFn (n := 512) fun i => .int .i64 (f i)
theorem latS_size (v1 v2 v3 : Value) (dn : Nat) (st : Int) (f : Nat → Int) : (latS v1 v2 v3 dn st f).size = 518 := by simp [latS]
theorem latS_t {v1 v2 v3 : Value} {dn : Nat} {st : Int} {f : Nat → Int} {i : Nat} (h6 : 6 ≤ i) (hi : i < 518) : (latS v1 v2 v3 dn st f)[i]? = some (.int .i64 (f (i - 6))) := by
  unfold latS
  rw [Array.getElem?_append_right (by simpa using h6)]
  have hi2 : i - 6 < 512 := by omega
  simp [hi2]
theorem latS_h {v1 v2 v3 : Value} {dn : Nat} {st : Int} {f : Nat → Int} {i : Nat} (h6 : i < 6) : (latS v1 v2 v3 dn st f)[i]? = #[v1, v2, v3, .int .u32 (dn : Int), .int .i32 st, .int .u32 0][i]? := by
  unfold latS
  rw [Array.getElem?_append_left (by simpa using h6)]
def LB (w : World) (g : Nat) (v1 v2 v3 : Value) (dn : Nat) (st : Int) (f : Nat → Int) : Prop := w.heap[g]? = some (.cells (latS v1 v2 v3 dn st f) 73 (0, 0))
/-- cells one after the other -/
def setMany (cs : Array Value) : Nat → List Value → Array Value
  | _, [] => cs
  | o, v :: r => setMany (cs.setIfInBounds o v) (o + 1) r
theorem setMany_get : ∀ (vs : List Value) (cs : Array Value) (o i : Nat), (setMany cs o vs)[i]? = if o ≤ i ∧ i < o + vs.length ∧ i < cs.size then vs[i - o]? else cs[i]?
  | [], cs, o, i => by
    rw [if_neg (by simp; omega)]; rfl
  | v :: r, cs, o, i => by
    show (setMany (cs.setIfInBounds o v) (o + 1) r)[i]? = _
    rw [setMany_get r, Array.size_setIfInBounds, Array.getElem?_setIfInBounds]
    by_cases hio : o = i
    · subst hio
      rw [if_neg (by omega), if_pos rfl]
      by_cases hs : o < cs.size
      · rw [if_pos hs, if_pos (by simp [hs])]; simp
      · rw [if_neg hs, if_neg (by omega), Array.getElem?_eq_none (by omega)]
    · rw [if_neg hio]
      by_cases h : o + 1 ≤ i ∧ i < o + 1 + r.length ∧ i < cs.size
      · have h2 : o ≤ i ∧ i < o + (v :: r).length ∧ i < cs.size := by rw [List.length_cons]; omega
        rw [if_pos h, if_pos h2]
        obtain ⟨j, hj⟩ : ∃ j, i - o = j + 1 := ⟨i - o - 1, by omega⟩
        rw [hj, List.getElem?_cons_succ, show i - (o + 1) = j by omega]
      · have h2 : ¬ (o ≤ i ∧ i < o + (v :: r).length ∧ i < cs.size) := by rw [List.length_cons]; omega
        rw [if_neg h, if_neg h2]
theorem heap_setCells (g : Nat) (t : TypeId) : ∀ (vs : List Value) (o : Nat) (w : World) (cs : Array Value), w.heap[g]? = some (.cells cs t (0, 0)) → (w.setCells g o vs).heap[g]? = some (.cells (setMany cs o vs) t (0, 0))
  | [], _, _, _, h => h
  | v :: r, o, w, cs, h => heap_setCells g t r (o + 1) _ _ (heap_setCell_same w g o cs t v h)
theorem many_lo (v1 v2 v3 : Value) (dn : Nat) (st : Int) (f t : Nat → Int) : setMany (latS v1 v2 v3 dn st f) 6 (tb t).toList = latS v1 v2 v3 dn st (fun i => if i < 256 then t i else f i) := by
  apply Array.ext_getElem?
  intro i
  rw [setMany_get, latS_size]
  have hl : (tb t).toList.length = 256 := by rw [Array.length_toList, tb_size]
  rw [hl]
  by_cases h1 : i < 6
  · rw [if_neg (by omega), latS_h h1, latS_h h1]
  · by_cases h2 : i < 262
    · rw [if_pos (by omega), latS_t (by omega) (by omega), if_pos (by omega), Array.getElem?_toList, tb_get (by omega)]
    · rw [if_neg (by omega)]
      by_cases h3 : i < 518
      · rw [latS_t (by omega) h3, latS_t (by omega) h3, if_neg (by omega)]
      · rw [Array.getElem?_eq_none (by rw [latS_size]; omega), Array.getElem?_eq_none (by rw [latS_size]; omega)]
theorem many_hi (v1 v2 v3 : Value) (dn : Nat) (st : Int) (f t : Nat → Int) : setMany (latS v1 v2 v3 dn st f) 262 (tb t).toList = latS v1 v2 v3 dn st (fun i => if i < 256 then f i else t (i - 256)) := by
  apply Array.ext_getElem?
  intro i
  rw [setMany_get, latS_size]
  have hl : (tb t).toList.length = 256 := by rw [Array.length_toList, tb_size]
  rw [hl]
  by_cases h1 : i < 6
  · rw [if_neg (by omega), latS_h h1, latS_h h1]
  · by_cases h2 : i < 262
    · rw [if_neg (by omega), latS_t (by omega) (by omega), latS_t (by omega) (by omega), if_pos (by omega)]
    · by_cases h3 : i < 518
      · rw [if_pos (by omega), latS_t (by omega) h3, if_neg (by omega), Array.getElem?_toList, tb_get (by omega), show i - 6 - 256 = i - 262 by omega]
      · rw [if_neg (by omega), Array.getElem?_eq_none (by rw [latS_size]; omega), Array.getElem?_eq_none (by rw [latS_size]; omega)]
section
variable {w w' : World} {g : Nat} {v1 v2 v3 : Value} {dn : Nat} {st : Int} {f : Nat → Int}
theorem LB.lt (h : LB w g v1 v2 v3 dn st f) : g < w.heap.size := (Array.getElem?_eq_some_iff.1 h).1
theorem LB.cell (h : LB w g v1 v2 v3 dn st f) (i : Nat) : w.cell? ⟨g, i, none⟩ = (latS v1 v2 v3 dn st f)[i]? := cell_of_row w g i _ 73 (0, 0) h
theorem LB.frozen (h : LB w g v1 v2 v3 dn st f) (i : Nat) : w.frozen? ⟨g, i, none⟩ = false := frozen_of_row w g i _ 73 h
theorem LB.grown {row : Option Nat} (h : LB w g v1 v2 v3 dn st f) (hb : w.grownBy w' row) (hg : some g ≠ row) : LB w' g v1 v2 v3 dn st f := (hb.block g h.lt hg).trans h
theorem LB.there (h : LB w g v1 v2 v3 dn st f) {o n : Nat} (ho : o + n ≤ 518) : w.there g o n := fun j hj => ⟨by rw [h.cell, Array.getElem?_eq_getElem (by rw [latS_size]; omega)]; rfl, h.frozen _⟩
theorem LB.lo (h : LB w g v1 v2 v3 dn st f) (t : Nat → Int) : LB (w.setCells g 6 (tb t).toList) g v1 v2 v3 dn st (fun i => if i < 256 then t i else f i) := (heap_setCells g 73 _ 6 w _ h).trans (by rw [many_lo])
theorem LB.hi (h : LB w g v1 v2 v3 dn st f) (t : Nat → Int) : LB (w.setCells g 262 (tb t).toList) g v1 v2 v3 dn st (fun i => if i < 256 then f i else t (i - 256)) := (heap_setCells g 73 _ 262 w _ h).trans (by rw [many_hi])
theorem LB.set3 (h : LB w g v1 v2 v3 dn st f) (x : Nat) : LB (w.setCell ⟨g, 3, none⟩ (.int .u32 (x : Int))) g v1 v2 v3 x st f := (heap_setCell_same w g 3 _ 73 _ h).trans (by simp [latS])
theorem LB.set4 (h : LB w g v1 v2 v3 dn st f) (x : Int) : LB (w.setCell ⟨g, 4, none⟩ (.int .i32 x)) g v1 v2 v3 dn x f := (heap_setCell_same w g 4 _ 73 _ h).trans (by simp [latS])
end
theorem grown_below {w w' : World} {row : Option Nat} (h : Below w.heap.size w w') : w.grownBy w' row := ⟨h.os, h.tape, h.output, h.size, fun k hk _ => h.block k hk⟩
theorem setCells_size (g : Nat) : ∀ (vs : List Value) (o : Nat) (w : World), (w.setCells g o vs).heap.size = w.heap.size ∧ (w.setCells g o vs).os = w.os ∧ (w.setCells g o vs).tape = w.tape ∧ (w.setCells g o vs).output = w.output
  | [], _, _ => ⟨rfl, rfl, rfl, rfl⟩
  | v :: r, o, w => by
    obtain ⟨h1, h2, h3, h4⟩ := setCells_size g r (o + 1) (w.setCell ⟨g, o, none⟩ v)
    exact ⟨h1.trans (by simp), h2, h3, h4⟩
theorem grown_many {w w' : World} {g o : Nat} (h : w.grownBy w' (some g)) (vs : List Value) : w.grownBy (w'.setCells g o vs) (some g) := by
  obtain ⟨h1, h2, h3, h4⟩ := setCells_size g vs o w'
  have hb : ∀ (vs : List Value) (o : Nat) (w : World) (k : Nat), k ≠ g → (w.setCells g o vs).heap[k]? = w.heap[k]? := fun vs => by
    induction vs with
    | nil => intro o w k _; rfl
    | cons v r ih => intro o w k hk; exact (ih (o + 1) _ k hk).trans (heap_setCell_other w ⟨g, o, none⟩ k v hk)
  exact ⟨h2.trans h.os, h3.trans h.tape, h4.trans h.output, by rw [h1]; exact h.size, fun k hk hne => (hb vs o w' k (fun e => hne (by rw [e]))).trans (h.block k hk hne)⟩
theorem mid71 {ops : Array Oper} {rest : List Oper} {d : Option Tmp} {ty : TypeId} {p : String} {af : Array Edge} {x y : Operand} {a : Act} {w : World} {Q : Exit → Act → World → Prop}
    {g o : Nat} {t : Nat → Int} (hx : a.eval x = .pointer (some ⟨g, o, none⟩)) (hy : a.eval y = .agg (tb t)) (ht : w.there g o 256) (h : wpList Try.prog ops Q rest (a.put d undef) (w.setCells g o (tb t).toList)) :
    wpList Try.prog ops Q (⟨d, .store 71 x y, ty, p, af, none⟩ :: rest) a w :=
  wpList_store_mid rfl 71 x y rfl g o (tb t) hx hy (by rw [tb_size]; exact ht) (by rw [tb_size]; exact size71) (tb_one t) h
def FillPost (g n dn : Nat) (v1 v2 v3 : Value) (st : Int) (u d : Nat → Nat) (w : World) (e : Ending) (w' : World) : Prop := e = .returned (.tuple #[]) ∧ ∃ f', Tab n u d f' ∧ LB w' g v1 v2 v3 dn st f' ∧ w.grownBy w' (some g)
set_option maxRecDepth 100000 in
set_option maxHeartbeats 1000000 in
theorem fill_any (g gu gd n dn : Nat) (v1 : Value) (st : Int) (f : Nat → Int) (u d : Nat → Nat) (hn : n ≤ 16) (fu : Fit n u) (fd : Fit n d) (w : World) (hne2 : g ≠ gd)
    (hL : LB w g v1 (.slice (some ⟨gu, 0, none⟩) n n) (.slice (some ⟨gd, 0, none⟩) n n) dn st f) (hu : Mb w gu n u) (hd : Mb w gd n d) :
    Calls Try.prog 48 #[.pointer (some ⟨g, 0, none⟩)] w (FillPost g n dn v1 (.slice (some ⟨gu, 0, none⟩) n n) (.slice (some ⟨gd, 0, none⟩) n n) st u d w) := by
  have c1 := hL.cell 1
  rw [latS_h (by omega)] at c1
  simp only [List.getElem?_toArray, List.getElem?_cons_succ, List.getElem?_cons_zero] at c1
  have HL := Lib.hid hL
  have HU := Lib.hid hu
  have HD := Lib.hid hd
  have FU := Lib.hid fu
  have FD := Lib.hid fd
  clear hL hu hd fu fd
  go_enter Try.func48, Try.ntmps48
  go_upto_region 1 with (first
    | (go_at_call 56; refine (bounds_any gu n u hn FU.out _ HU.out).mono ?_; rintro e w1 ⟨t1, rfl, up1, hb1⟩; have L1 := HL.out.grown (grown_below (row := none) hb1) (by simp))
    | ((with_reducible apply mid71); (exact rfl); (exact rfl); (exact L1.there (by omega)); simp only [Act.put]))
  have L2 := L1.lo t1
  have G2 : w.grownBy (w1.setCells g 6 (tb t1).toList) (some g) := grown_many (grown_below hb1) _
  have HU2 := Lib.hid up1
  generalize w1.setCells g 6 (tb t1).toList = w2 at *
  have D2 := HD.out.grown G2 (by intro e; injection e with e; exact hne2 e.symm)
  clear L1 hb1 up1 c1
  have c2 := L2.cell 2
  rw [latS_h (by omega)] at c2
  simp only [List.getElem?_toArray, List.getElem?_cons_succ, List.getElem?_cons_zero] at c2
  go_wp2_with (first
    | (go_at_call 56; refine (bounds_any gd n d hn FD.out _ D2).mono ?_; rintro e w3 ⟨t2, rfl, up2, hb2⟩; have L3 := L2.grown (grown_below (row := none) hb2) (by simp))
    | ((with_reducible apply mid71); (exact rfl); (exact rfl); (exact L3.there (by omega)); simp only [Act.put]))
  go_end0
  refine ⟨rfl, _, ?_, L3.hi t2, grown_many (G2.trans (grown_below hb2)) _⟩
  intro a b ha hb
  have e1 := HU2.out a b ha hb (by omega)
  have e2 := up2 a b ha hb (by omega)
  have h1 : 16 * a + b < 256 := by omega
  have h2 : ¬ 256 + (16 * a + b) < 256 := by omega
  constructor
  · show (if 16 * a + b < 256 then (if 16 * a + b < 256 then t1 (16 * a + b) else f (16 * a + b)) else _) = _
    rw [if_pos h1, if_pos h1, Nat.mul_comm, e1]
  · show (if 256 + (16 * a + b) < 256 then _ else t2 (256 + (16 * a + b) - 256)) = _
    rw [if_neg h2, show 256 + (16 * a + b) - 256 = a * 16 + b by omega, e2]
end Go.Proofs.Ytefnbjkmmmdagaa
