/- PROVED here: words for ints, nodes and trees in memory, and how they last. No condition but those in each theorem's own head. -/
import Derived.Test.YtdoeinjplgeadaaGreatDoorProg
import Derived.Test.YtdoeinjplgeadaaGreatDoorTrP
import Derived.Tactics
import Derived.Tactics2
import Derived.WalkKit
import Derived.IntWalk
import Derived.KernelRfl
import Derived.Lib.Hide
import Derived.Below
import Derived.Deep.Draws
import Derived.Deep.QuietTactic
import Derived.BigQuiet
import Derived.StillTailTactics
import Derived.Deep.DeepCutAuto
import Derived.Laws.OwnMore
import Derived.Laws.Rows
import Derived.OrdersHeld
import Derived.Deep.RegionWith
import Derived.Maps.AppendAt
import Derived.Laws.MakeOwn
import Derived.RangeFuncNested
import Derived.RangeFuncLeaves
namespace Go.Proofs.YtdoeinjplgeadaaGreatDoor.Tr
open Go Go.RowKit

theorem ret_int {k : IntKind} {a b : Int} (h : a = b) : Ending.returned (.int k a) = .returned (.int k b) := by rw [h]
theorem ret_bool {a b : Bool} (h : a = b) : Ending.returned (.bool a) = .returned (.bool b) := by rw [h]
theorem gen_world {P : Program} {c : Code} {Q : Exit → Act → World → Prop} {a : Act} {w : World} (R : World → Prop) (h : R w) (k : ∀ w', R w' → Code.wp P c Q a w') : Code.wp P c Q a w := k w h
theorem heap1 (w : World) (A : Obj) : Below w.heap.size w (w.alloc A) := (Below.refl _ _).alloc (Nat.le_refl _) _
theorem bt {a b c : World} (h : Below a.heap.size a b) (k : Below b.heap.size b c) : Below a.heap.size a c := h.trans (k.mono h.size)
theorem below_drewN {B : Nat} {a w : World} (h : Below B a w) (n : Nat) : Below B a (w.drewN n) := ⟨h.os, h.tape, h.output, h.size, h.block⟩
theorem cell_same {w w' : World} {b : Nat} (h : w'.heap[b]? = w.heap[b]?) (off : Nat) : w'.cell? ⟨b, off, none⟩ = w.cell? ⟨b, off, none⟩ := by
  unfold World.cell?; rw [h]

/-- a slice of ints -/
def Ints (w : World) (A : Option Addr) (l : List Int) : Prop :=
  0 < l.length → ∃ b off, A = some ⟨b, off, none⟩ ∧ b < w.heap.size ∧ ∀ j (hj : j < l.length), w.cell? ⟨b, off + j, none⟩ = some (.int .i64 l[j])
theorem Ints.below {w w' : World} {A : Option Addr} {l : List Int} (h : Ints w A l) (hb : Below w.heap.size w w') : Ints w' A l := fun h0 => by
  obtain ⟨b, off, e, hl, hc⟩ := h h0
  exact ⟨b, off, e, Nat.lt_of_lt_of_le hl hb.size, fun j hj => (hb.cell (p := ⟨b, off + j, none⟩) hl).trans (hc j hj)⟩
theorem Ints.keep {w w' : World} {A : Option Addr} {l : List Int} (h : Ints w A l) (hs : w.heap.size ≤ w'.heap.size) (hk : ∀ b off, A = some ⟨b, off, none⟩ → 0 < l.length → w'.heap[b]? = w.heap[b]?) : Ints w' A l := fun h0 => by
  obtain ⟨b, off, e, hl, hc⟩ := h h0
  exact ⟨b, off, e, Nat.lt_of_lt_of_le hl hs, fun j hj => (cell_same (hk b off e h0) _).trans (hc j hj)⟩
/-- a slice of nodes -/
def Nds (w : World) (A : Option Addr) (l : List Nd) : Prop :=
  0 < l.length → ∃ b off, A = some ⟨b, off, none⟩ ∧ b < w.heap.size ∧ ∀ j (hj : j < l.length), ∃ K c, w.cell? ⟨b, off + j * 5, none⟩ = some (.int .i64 l[j].kd) ∧ w.cell? ⟨b, off + j * 5 + 1, none⟩ = some (.int .i64 l[j].n) ∧
    w.cell? ⟨b, off + j * 5 + 2, none⟩ = some (.int .i64 l[j].pl) ∧ w.cell? ⟨b, off + j * 5 + 3, none⟩ = some (.string l[j].tx) ∧ w.cell? ⟨b, off + j * 5 + 4, none⟩ = some (.slice K l[j].ks.length c) ∧ Ints w K l[j].ks
theorem Nds.below {w w' : World} {A : Option Addr} {l : List Nd} (h : Nds w A l) (hb : Below w.heap.size w w') : Nds w' A l := fun h0 => by
  obtain ⟨b, off, e, hl, hc⟩ := h h0
  refine ⟨b, off, e, Nat.lt_of_lt_of_le hl hb.size, fun j hj => ?_⟩
  obtain ⟨K, c, c0, c1, c2, c3, c4, hK⟩ := hc j hj
  exact ⟨K, c, (hb.cell (p := ⟨b, off + j * 5, none⟩) hl).trans c0, (hb.cell (p := ⟨b, off + j * 5 + 1, none⟩) hl).trans c1, (hb.cell (p := ⟨b, off + j * 5 + 2, none⟩) hl).trans c2,
    (hb.cell (p := ⟨b, off + j * 5 + 3, none⟩) hl).trans c3, (hb.cell (p := ⟨b, off + j * 5 + 4, none⟩) hl).trans c4, hK.below hb⟩
/-- a slice of nodes, from one of them up to another one -/
theorem Nds.sub {w : World} {b off : Nat} {l : List Nd} (h : Nds w (some ⟨b, off, none⟩) l) (i k : Nat) (hk : k ≤ l.length) : Nds w (some ⟨b, off + i * 5, none⟩) ((l.take k).drop i) := fun h0 => by
  have h1 : ((l.take k).drop i).length = k - i := by rw [List.length_drop, List.length_take, Nat.min_eq_left hk]
  rw [h1] at h0
  obtain ⟨b', off', e, hl, hc⟩ := h (by omega)
  cases e
  refine ⟨b, off + i * 5, rfl, hl, fun j hj => ?_⟩
  have hj' : j < k - i := by rw [← h1]; exact hj
  have e1 : ((l.take k).drop i)[j] = l[i + j] := by rw [List.getElem_drop, List.getElem_take]
  rw [e1, show off + i * 5 + j * 5 = off + (i + j) * 5 by omega]
  exact hc (i + j) (by omega)

/-- a block of ints -/
def mkI (n : Nat) (m : Nat → Int) : Array Value := Array.ofFn (n := n) fun i => .int .i64 (m i)
theorem mkI_size (n : Nat) (m : Nat → Int) : (mkI n m).size = n := by simp [mkI]
theorem mkI_get {n : Nat} {m : Nat → Int} {i : Nat} (h : i < n) : (mkI n m)[i]? = some (.int .i64 (m i)) := by simp [mkI, h]
theorem mkI_set {n : Nat} {m : Nat → Int} {i : Nat} {x : Int} : (mkI n m).setIfInBounds i (.int .i64 x) = mkI n (fun j => if j = i then x else m j) := by
  apply Array.ext_getElem?
  intro j
  rw [Array.getElem?_setIfInBounds]
  by_cases h : i = j
  · subst h
    by_cases hk : i < n <;> simp [mkI, hk]
  · have h' : ¬ j = i := fun e => h e.symm
    rw [if_neg h]
    by_cases hi : j < n
    · rw [mkI_get hi, mkI_get hi, if_neg h']
    · rw [Array.getElem?_eq_none (by rw [mkI_size]; omega), Array.getElem?_eq_none (by rw [mkI_size]; omega)]
theorem mkI_congr {n : Nat} {m m' : Nat → Int} (h : ∀ i, i < n → m i = m' i) : mkI n m = mkI n m' := by
  unfold mkI; congr 1; funext i; rw [h i i.2]
theorem mkI_zero (n : Nat) : Array.replicate n (Value.int .i64 0) = mkI n fun _ => 0 := by
  apply Array.ext_getElem?
  intro j
  by_cases hi : j < n
  · rw [mkI_get hi]; simp [hi]
  · rw [Array.getElem?_eq_none (by simp; omega), Array.getElem?_eq_none (by rw [mkI_size]; omega)]
def Ib (w : World) (g n : Nat) (m : Nat → Int) : Prop := w.heap[g]? = some (.cells (mkI n m) 3 (0, 0))
section
variable {w w' : World} {g n : Nat} {m : Nat → Int}
theorem Ib.lt (h : Ib w g n m) : g < w.heap.size := (Array.getElem?_eq_some_iff.1 h).1
theorem Ib.cell (h : Ib w g n m) {i : Nat} (hi : i < n) : w.cell? ⟨g, i, none⟩ = some (.int .i64 (m i)) := (cell_of_row w g i _ 3 (0, 0) h).trans (mkI_get hi)
theorem Ib.frozen (h : Ib w g n m) (i : Nat) : w.frozen? ⟨g, i, none⟩ = false := frozen_of_row w g i _ 3 h
theorem Ib.set_ (h : Ib w g n m) (i : Nat) (x : Int) : Ib (w.setCell ⟨g, i, none⟩ (.int .i64 x)) g n (fun j => if j = i then x else m j) := (heap_setCell_same w g i _ 3 _ h).trans (by rw [mkI_set])
theorem Ib.far (h : Ib w g n m) {p : Addr} (hp : g ≠ p.block) (u : Value) : Ib (w.setCell p u) g n m := (heap_setCell_other w p g u hp).trans h
theorem Ib.same (h : Ib w g n m) (hg : w'.heap[g]? = w.heap[g]?) : Ib w' g n m := hg.trans h
theorem Ib.below {B : Nat} (h : Ib w g n m) (hb : Below B w w') (hg : g < B) : Ib w' g n m := (hb.block g hg).trans h
theorem Ib.grown {row : Option Nat} (h : Ib w g n m) (hb : w.grownBy w' row) (hg : some g ≠ row) : Ib w' g n m := (hb.block g h.lt hg).trans h
theorem Ib.alloc (h : Ib w g n m) (o : Obj) : Ib (w.alloc o) g n m := h.grown (World.grownBy_alloc w o none) (by simp)
theorem Ib.congr {m' : Nat → Int} (h : Ib w g n m) (e : ∀ i, i < n → m i = m' i) : Ib w g n m' := by unfold Ib at *; rw [h, mkI_congr e]
theorem Ib.ints (h : Ib w g n m) : Ints w (some ⟨g, 0, none⟩) ((List.range n).map m) := fun _ => by
  refine ⟨g, 0, rfl, h.lt, fun j hj => ?_⟩
  have : j < n := by simpa using hj
  rw [Nat.zero_add, h.cell this]; simp
end
/-- a struct in a box of its own -/
def Bx (w : World) (B : Nat) (t : TypeId) (l : List Value) : Prop := w.heap[B]? = some (.cells l.toArray t (0, 0))
section
variable {w w' : World} {B : Nat} {t : TypeId} {l : List Value}
theorem Bx.lt (h : Bx w B t l) : B < w.heap.size := (Array.getElem?_eq_some_iff.1 h).1
theorem Bx.cell (h : Bx w B t l) (i : Nat) : w.cell? ⟨B, i, none⟩ = l[i]? := (cell_of_row w B i _ t (0, 0) h).trans (by simp)
theorem Bx.frozen (h : Bx w B t l) (i : Nat) : w.frozen? ⟨B, i, none⟩ = false := frozen_of_row w B i _ t h
theorem Bx.set_ (h : Bx w B t l) (i : Nat) (u : Value) : Bx (w.setCell ⟨B, i, none⟩ u) B t (l.set i u) := (heap_setCell_same w B i _ t _ h).trans (by simp)
theorem Bx.far (h : Bx w B t l) {p : Addr} (hp : B ≠ p.block) (u : Value) : Bx (w.setCell p u) B t l := (heap_setCell_other w p B u hp).trans h
theorem Bx.same (h : Bx w B t l) (hg : w'.heap[B]? = w.heap[B]?) : Bx w' B t l := hg.trans h
theorem Bx.below {C : Nat} (h : Bx w B t l) (hb : Below C w w') (hg : B < C) : Bx w' B t l := (hb.block B hg).trans h
theorem Bx.grown {row : Option Nat} (h : Bx w B t l) (hb : w.grownBy w' row) (hg : some B ≠ row) : Bx w' B t l := (hb.block B h.lt hg).trans h
theorem Bx.alloc (h : Bx w B t l) (o : Obj) : Bx (w.alloc o) B t l := h.grown (World.grownBy_alloc w o none) (by simp)
theorem Bx.new (w : World) (t : TypeId) (l : List Value) : Bx (w.alloc (.cells l.toArray t)) w.heap.size t l := World.alloc_heap_new w _
end
theorem info3 : (Tryz.prog.info? 3).map (fun i => (i.zero, i.size, i.bytes)) = some (some (.int .i64 0), 1, 8) := by kernel_rfl
theorem made0 (n : Nat) : madeCells #[.int .i64 0] n = mkI n (fun _ => 0) := by
  apply Array.ext_getElem?
  intro j
  by_cases h : j < n
  · rw [mkI_get h]; simp [madeCells, h, Nat.mod_one]
  · rw [Array.getElem?_eq_none (by simp [madeCells]; omega), Array.getElem?_eq_none (by rw [mkI_size]; omega)]
theorem make22 (n : Nat) (hn : n ≤ 4000000000) (w : World) : (Instr.makeSlice 37 (.int .i64 (n : Int)) (.int .i64 (n : Int))).run Tryz.prog w = .ok (.slice (some ⟨w.heap.size, 0, none⟩) n n) (w.alloc (.cells (mkI n (fun _ => 0)) 3)) := by
  have h := info3
  cases hq : Tryz.prog.info? 3 with
  | none => rw [hq] at h; cases h
  | some i =>
    rw [hq] at h
    simp only [Option.map_some, Option.some.injEq, Prod.mk.injEq] at h
    obtain ⟨h1, h2, h3⟩ := h
    have := run_make (P := Tryz.prog) w 37 3 i (.int .i64 0) Tryz.underlying37 hq h1 .i64 .i64 (n : Int) (n : Int) (by omega) (Int.le_refl _) (by rw [h3]; omega) (by omega)
    rw [this, h2]
    simp only [Int.toNat_natCast, Nat.mul_one]
    rw [show (Value.int .i64 0).cells = #[.int .i64 0] from rfl, made0]
theorem info24 : (Tryz.prog.info? 39).map (fun i => (i.zero, i.size, i.bytes)) = some (some (.agg #[.int .i64 0, .int .i64 0, .int .i64 0, .string ⟨#[]⟩, .slice none 0 0]), 5, 64) := by kernel_rfl
def zN : Array Value := #[.int .i64 0, .int .i64 0, .int .i64 0, .string ⟨#[]⟩, .slice none 0 0]
theorem make28 (n : Nat) (hn : n ≤ 4000000000) (w : World) : (Instr.makeSlice 23 (.int .i64 (n : Int)) (.int .i64 (n : Int))).run Tryz.prog w = .ok (.slice (some ⟨w.heap.size, 0, none⟩) n n) (w.alloc (.cells (madeCells zN (n * 5)) 39)) := by
  have h := info24
  cases hq : Tryz.prog.info? 39 with
  | none => rw [hq] at h; cases h
  | some i =>
    rw [hq] at h
    simp only [Option.map_some, Option.some.injEq, Prod.mk.injEq] at h
    obtain ⟨h1, h2, h3⟩ := h
    have := run_make (P := Tryz.prog) w 23 39 i _ Tryz.underlying23 hq h1 .i64 .i64 (n : Int) (n : Int) (by omega) (Int.le_refl _) (by rw [h3]; omega) (by omega)
    rw [this, h2]
    simp only [Int.toNat_natCast]
    rw [show (Value.agg #[.int .i64 0, .int .i64 0, .int .i64 0, .string ⟨#[]⟩, .slice none 0 0]).cells = zN by rfl]
theorem kidsAt_eq {l : List Nd} {p : Nat} (h : p < l.length) : kidsAt l p = l[p].ks := by
  unfold kidsAt; simp [List.getD, h]
end Go.Proofs.YtdoeinjplgeadaaGreatDoor.Tr
