/- PROVED here: parts VaA of the claim. No condition but those in each theorem's own head. -/
import Derived.Test.YtignojhijmamhaaProg
import Derived.Tactics
import Derived.Tactics2
import Derived.WalkKit
import Derived.IntWalk
import Derived.KernelRfl
import Derived.Lib.Hide
import Derived.Below
import Derived.Deep.Draws
import Derived.Deep.QuietTactic
import Derived.BigQuiet
import Derived.StillTailTactics
import Derived.Deep.DeepCutAuto
import Derived.Laws.OwnMore
import Derived.Laws.Rows
import Derived.OrdersHeld
import Derived.Deep.RegionWith
import Derived.Maps.AppendAt
import Derived.Laws.MakeOwn
import Derived.Lib.QuietBelow
namespace Go.Proofs.Ytignojhijmamhaa.Va
open Go Go.RowKit
theorem gen_world {P : Program} {c : Code} {Q : Exit → Act → World → Prop} {a : Act} {w : World} (R : World → Prop) (h : R w) (k : ∀ w', R w' → Code.wp P c Q a w') : Code.wp P c Q a w := k w h
theorem heap1 (w : World) (A : Obj) : Below w.heap.size w (w.alloc A) := (Below.refl _ _).alloc (Nat.le_refl _) _
theorem bt {a b c : World} (h : Below a.heap.size a b) (k : Below b.heap.size b c) : Below a.heap.size a c := h.trans (k.mono h.size)
def VP (k n : Int) (w : World) (e : Ending) (w' : World) : Prop := e = .returned (.agg #[.int .i64 k, .int .i64 n]) ∧ Below w.heap.size w w'
def V2 (k n : Int) (b : Bool) (w : World) (e : Ending) (w' : World) : Prop := e = .returned (.tuple #[.agg #[.int .i64 k, .int .i64 n], .bool b]) ∧ Below w.heap.size w w'
def V3 (k n x : Int) (b : Bool) (w : World) (e : Ending) (w' : World) : Prop := e = .returned (.tuple #[.agg #[.int .i64 k, .int .i64 n], .int .i64 x, .bool b]) ∧ Below w.heap.size w w'
def VI (k n x : Int) (w : World) (e : Ending) (w' : World) : Prop := e = .returned (.tuple #[.agg #[.int .i64 k, .int .i64 n], .int .i64 x]) ∧ Below w.heap.size w w'
def BP (b : Bool) (w : World) (e : Ending) (w' : World) : Prop := e = .returned (.bool b) ∧ Below w.heap.size w w'
def IP (n : Int) (w : World) (e : Ending) (w' : World) : Prop := e = .returned (.int .i64 n) ∧ Below w.heap.size w w'
theorem str_ne {s t : ByteArray} (h : s ≠ t) : (s.toList == t.toList) = false := beq_eq_false_iff_ne.2 fun e => h (by
  rw [ByteArray.toList_eq, ByteArray.toList_eq] at e
  cases s; cases t; simp_all)
theorem str_eq (s : ByteArray) : (s.toList == s.toList) = true := by simp
def Bx (w : World) (b : Nat) (t : TypeId) (l : List Value) : Prop := w.heap[b]? = some (.cells l.toArray t (0, 0))
theorem Bx.new (w : World) (t : TypeId) (l : List Value) : Bx (w.alloc (.cells l.toArray t)) w.heap.size t l := heap_alloc_new w _
theorem Bx.lt {w : World} {b : Nat} {t : TypeId} {l : List Value} (h : Bx w b t l) : b < w.heap.size := (Array.getElem?_eq_some_iff.1 h).1
theorem Bx.cell {w : World} {b : Nat} {t : TypeId} {l : List Value} (h : Bx w b t l) (i : Nat) : w.cell? ⟨b, i, none⟩ = l[i]? := by
  rw [cell_of_row w b i l.toArray t (0, 0) h]; simp
theorem Bx.frozen {w : World} {b : Nat} {t : TypeId} {l : List Value} (h : Bx w b t l) (i : Nat) : w.frozen? ⟨b, i, none⟩ = false := frozen_of_row w b i l.toArray t h
theorem Bx.alloc {w : World} {b : Nat} {t : TypeId} {l : List Value} (h : Bx w b t l) (o : Obj) : Bx (w.alloc o) b t l := (heap_alloc_old w o h.lt).trans h
theorem Bx.below {w w' : World} {b : Nat} {t : TypeId} {l : List Value} (h : Bx w b t l) {B : Nat} (hb : Below B w w') (hg : b < B) : Bx w' b t l := (hb.block b hg).trans h
theorem Bx.set_ {w : World} {b : Nat} {t : TypeId} {l : List Value} (h : Bx w b t l) (i : Nat) (u : Value) : Bx (w.setCell ⟨b, i, none⟩ u) b t (l.set i u) := by
  have := heap_setCell_same w b i l.toArray t u h
  unfold Bx
  rw [this]
  simp
theorem Bx.far {w : World} {b : Nat} {t : TypeId} {l : List Value} (h : Bx w b t l) {p : Addr} (hp : b ≠ p.block) (u : Value) : Bx (w.setCell p u) b t l := (Below.heap_setCell w p u b hp).trans h
theorem below2 {w w1 : World} {g : Nat} {u v : Value} (h : Below w.heap.size w w1) (hg : w.heap.size ≤ g) : Below w.heap.size w ((w1.setCell ⟨g, 0, none⟩ u).setCell ⟨g, 1, none⟩ v) := (h.setCell hg _).setCell hg _
theorem bcell3 {W w1 : World} (hb : Below W.heap.size W w1) : (∀ b o, b < W.heap.size → w1.cell? ⟨b, o, none⟩ = W.cell? ⟨b, o, none⟩) ∧ (∀ b o, b < W.heap.size → w1.frozen? ⟨b, o, none⟩ = W.frozen? ⟨b, o, none⟩) ∧ (∀ n, n < W.heap.size → n < w1.heap.size) :=
  ⟨fun b o h => hb.cell (p := ⟨b, o, none⟩) h, fun b o h => hb.frozen (p := ⟨b, o, none⟩) h, fun _ h => Nat.lt_of_lt_of_le h hb.size⟩
theorem realloc {a w : World} {B : Nat} {o o' : Obj} (h : Below B a (w.alloc o)) (hz : B ≤ w.heap.size) : Below B a (w.alloc o') :=
  ⟨h.os, h.tape, h.output, by have := h.size; simpa using this, fun k hk => by
    have := h.block k hk
    rw [Below.heap_alloc w o k (Nat.lt_of_lt_of_le hk hz)] at this
    rw [Below.heap_alloc w o' k (Nat.lt_of_lt_of_le hk hz)]
    exact this⟩
def tB (b : Bool) : Int := if b then 1 else 0
def calR (s : ByteArray) (a b : Int) : Option Int := if s = ⟨#[43]⟩ then some (wrap64 (a + b)) else if s = ⟨#[45]⟩ then some (wrap64 (a - b)) else if s = ⟨#[42]⟩ then some (wrap64 (a * b)) else none
def cmpR (s : ByteArray) (a b : Int) : Option Bool :=
  if s = ⟨#[61, 61]⟩ then some (a == b) else if s = ⟨#[33, 61]⟩ then some (a != b) else if s = ⟨#[60]⟩ then some (decide (a < b)) else if s = ⟨#[60, 61]⟩ then some (decide (a ≤ b)) else if s = ⟨#[62]⟩ then some (decide (b < a)) else if s = ⟨#[62, 61]⟩ then some (decide (b ≤ a)) else none
def truR (s : ByteArray) (x y : Bool) : Option Bool :=
  if s = ⟨#[38, 38]⟩ then some (x && y) else if s = ⟨#[124, 124]⟩ then some (x || y) else if s = ⟨#[61, 61]⟩ then some (x == y) else if s = ⟨#[33, 61]⟩ then some (x != y) else none
def optT : Option Bool → (Int × Int) × Int × Bool
  | none => ((0, 0), 0, false)
  | some t => ((2, tB t), 0, true)
def divR (q : Int) (b : Int) : (Int × Int) × Int × Bool := if b = 0 then ((0, 0), 1, true) else ((1, q), 0, true)
def numR (s : ByteArray) (a b : Int) : (Int × Int) × Int × Bool :=
  if s = ⟨#[43]⟩ then ((1, wrap64 (a + b)), 0, true) else if s = ⟨#[45]⟩ then ((1, wrap64 (a - b)), 0, true) else if s = ⟨#[42]⟩ then ((1, wrap64 (a * b)), 0, true)
  else if s = ⟨#[47]⟩ then divR (wrap64 (a.tdiv b)) b else if s = ⟨#[37]⟩ then divR (a.tmod b) b else optT (cmpR s a b)
def binR (s : ByteArray) (ka na kb nb : Int) : (Int × Int) × Int × Bool :=
  if ka = 1 ∧ kb = 1 then numR s na nb else if ka = 2 ∧ kb = 2 then optT (truR s (na != 0) (nb != 0)) else ((0, 0), 0, false)
def unR (s : ByteArray) (k n : Int) : (Int × Int) × Bool :=
  if s = ⟨#[45]⟩ ∧ k = 1 then ((1, wrap64 (-n)), true) else if s = ⟨#[33]⟩ ∧ k = 2 then ((2, tB (n == 0)), true) else ((0, 0), false)
set_option maxRecDepth 100000 in
theorem number_any (n : Int) (w : World) : Calls Try.prog 31 #[.int .i64 n] w fun e w' => e = .returned (.agg #[.int .i64 1, .int .i64 n]) ∧ w' = w.alloc (.cells #[.int .i64 1, .int .i64 n] 41) := by
  go_enter Try.func31, Try.ntmps31
  go_wp2
  exact bodyPost_ret (v := .agg #[.int .i64 1, .int .i64 n]) (by simp [results, Try.results31, go_sem]) rfl ⟨rfl, rfl⟩
set_option maxRecDepth 100000 in
theorem num_any (n : Int) (w : World) : Calls Try.prog 12 #[.int .i64 n] w fun e w' => e = .returned (.agg #[.int .i64 1, .int .i64 n]) ∧ w' = w.alloc (.cells #[.int .i64 1, .int .i64 n] 41) := by
  go_enter Try.func12, Try.ntmps12
  go_wp2
  exact bodyPost_ret (v := .agg #[.int .i64 1, .int .i64 n]) (by simp [results, Try.results12, go_sem]) rfl ⟨rfl, rfl⟩
set_option maxRecDepth 100000 in
theorem zero_any (k : Int) (w : World) : Calls Try.prog 15 #[.int .i64 k] w fun e w' => e = .returned (.agg #[.int .i64 k, .int .i64 0]) ∧ w' = w.alloc (.cells #[.int .i64 k, .int .i64 0] 41) := by
  go_enter Try.func15, Try.ntmps15
  go_wp2
  exact bodyPost_ret (v := .agg #[.int .i64 k, .int .i64 0]) (by simp [results, Try.results15, go_sem]) rfl ⟨rfl, rfl⟩
set_option maxRecDepth 100000 in
theorem truth_any (b : Bool) (w : World) : Calls Try.prog 50 #[.bool b] w fun e w' => e = .returned (.agg #[.int .i64 2, .int .i64 (tB b)]) ∧ w' = w.alloc (.cells #[.int .i64 2, .int .i64 (tB b)] 41) := by
  cases b with
  | false =>
    show Calls _ _ _ _ fun e w' => e = .returned (.agg #[.int .i64 2, .int .i64 0]) ∧ w' = w.alloc (.cells #[.int .i64 2, .int .i64 0] 41)
    go_enter Try.func50, Try.ntmps50
    go_wp2
    exact bodyPost_ret (v := .agg #[.int .i64 2, .int .i64 0]) (by simp [results, Try.results50, go_sem]) rfl ⟨rfl, rfl⟩
  | true =>
    show Calls _ _ _ _ fun e w' => e = .returned (.agg #[.int .i64 2, .int .i64 1]) ∧ w' = w.alloc (.cells #[.int .i64 2, .int .i64 1] 41)
    go_enter Try.func50, Try.ntmps50
    go_wp2
    exact bodyPost_ret (v := .agg #[.int .i64 2, .int .i64 1]) (by simp [results, Try.results50, go_sem]) rfl ⟨rfl, rfl⟩
set_option maxRecDepth 100000 in
theorem isTrue_any (k n : Int) (w : World) : Calls Try.prog 29 #[.agg #[.int .i64 k, .int .i64 n]] w (BP (n != 0) w) := by
  go_enter Try.func29, Try.ntmps29
  go_wp2
  go_ret
  exact ⟨rfl, heap1 _ _⟩
end Go.Proofs.Ytignojhijmamhaa.Va
