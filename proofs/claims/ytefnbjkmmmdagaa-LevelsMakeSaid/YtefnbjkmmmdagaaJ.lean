/- PROVED here: the contract of bounds. No condition but those in each theorem's own head. -/
import Derived.Test.YtefnbjkmmmdagaaI
import Derived.Deep.MidRow
namespace Go.Proofs.Ytefnbjkmmmdagaa
open Go Go.RowKit

/-- a table of 256 numbers -/
def tb (f : Nat → Int) : Array Value := Array.ofFn (n := 256) fun i => .int .i64 (f i)
theorem tb_size (f : Nat → Int) : (tb f).size = 256 := by simp [tb]
theorem tb_get {f : Nat → Int} {i : Nat} (h : i < 256) : (tb f)[i]? = some (.int .i64 (f i)) := by simp [tb, h]
theorem tb_set {f : Nat → Int} {i : Nat} {x : Int} : (tb f).setIfInBounds i (.int .i64 x) = tb (fun j => if j = i then x else f j) := by
  apply Array.ext_getElem?
  intro j
  rw [Array.getElem?_setIfInBounds]
  by_cases h : i = j
  · subst h
    by_cases hk : i < 256 <;> simp [tb, hk]
  · have h' : ¬ j = i := fun e => h e.symm
    rw [if_neg h]
    by_cases hi : j < 256
    · rw [tb_get hi, tb_get hi, if_neg h']
    · rw [Array.getElem?_eq_none (by rw [tb_size]; omega), Array.getElem?_eq_none (by rw [tb_size]; omega)]
theorem tb_one (f : Nat → Int) : (tb f).all (·.oneCell') = true := by
  rw [Array.all_eq_true_iff_forall_mem]; intro x hx; simp [tb] at hx; obtain ⟨i, rfl⟩ := hx; rfl
def Tk (w : World) (g : Nat) (f : Nat → Int) : Prop := w.heap[g]? = some (.cells (tb f) 71 (0, 0))
section
variable {w w' : World} {g : Nat} {f : Nat → Int}
theorem Tk.lt (h : Tk w g f) : g < w.heap.size := (Array.getElem?_eq_some_iff.1 h).1
theorem Tk.cell (h : Tk w g f) {i : Nat} (hi : i < 256) : w.cell? ⟨g, i, none⟩ = some (.int .i64 (f i)) := (cell_of_row w g i _ 71 (0, 0) h).trans (tb_get hi)
theorem Tk.frozen (h : Tk w g f) (i : Nat) : w.frozen? ⟨g, i, none⟩ = false := frozen_of_row w g i _ 71 h
theorem Tk.set_ (h : Tk w g f) (i : Nat) (x : Int) : Tk (w.setCell ⟨g, i, none⟩ (.int .i64 x)) g (fun j => if j = i then x else f j) := (heap_setCell_same w g i _ 71 _ h).trans (by rw [tb_set])
theorem Tk.far (h : Tk w g f) {p : Addr} (hp : g ≠ p.block) (u : Value) : Tk (w.setCell p u) g f := (heap_setCell_other w p g u hp).trans h
theorem Tk.drewN (h : Tk w g f) (k : Nat) : Tk (w.drewN k) g f := h
theorem Tk.setRow (h : Tk w g f) (f' : Nat → Int) : Tk (w.setRow g (tb f')) g f' := setRow_heap w g _ _ 71 (0, 0) h
end
theorem zero71 : Try.zeroCells71 = tb (fun _ => 0) := by kernel_rfl
theorem under71 : Try.prog.underlying 71 = some (.array (Try.prog.arrayLen 71) (Try.prog.elem 71)) := by kernel_rfl
theorem size71 : (Try.prog.info? 71).map (·.size) = some 256 := by kernel_rfl
theorem load71 {ops : Array Oper} {rest : List Oper} {d : Option Tmp} {ty : TypeId} {p : String} {af : Array Edge} {x : Operand} {a : Act} {w : World} {Q : Exit → Act → World → Prop}
    {g : Nat} {f : Nat → Int} (hx : a.eval x = .pointer (some ⟨g, 0, none⟩)) (hg : Tk w g f) (h : wpList Try.prog ops Q rest (a.put d (.agg (tb f))) w) :
    wpList Try.prog ops Q (⟨d, .load 71 x, ty, p, af, none⟩ :: rest) a w :=
  wpList_load_row rfl 71 x rfl g hx 71 (tb f) (0, 0) _ hg under71 rfl (by rw [tb_size]; exact size71) h
theorem store71 {ops : Array Oper} {rest : List Oper} {d : Option Tmp} {ty : TypeId} {p : String} {af : Array Edge} {x y : Operand} {a : Act} {w : World} {Q : Exit → Act → World → Prop}
    {g : Nat} {f f0 : Nat → Int} (hx : a.eval x = .pointer (some ⟨g, 0, none⟩)) (hy : a.eval y = .agg (tb f)) (hg : Tk w g f0) (h : wpList Try.prog ops Q rest (a.put d undef) (w.setRow g (tb f))) :
    wpList Try.prog ops Q (⟨d, .store 71 x y, ty, p, af, none⟩ :: rest) a w :=
  wpList_store_row rfl 71 x y rfl g (tb f) hx hy 71 (tb f0) hg (by rw [tb_size]; exact size71) (by rw [tb_size, tb_size]) (tb_one f) h
theorem ret71 {fn : Func} {R : Ending → World → Prop} {a : Act} {w : World} {p g : Nat} {f : Nat → Int} (h : fn.results = #[.cell p 71]) (hd : a.defers = []) (hp : a.tmps.getD p undef = .pointer (some ⟨g, 0, none⟩))
    (hg : Tk w g f) (hR : R (.returned (.agg (tb f))) w) : bodyPost Try.prog fn R .ret a w :=
  bodyPost_ret (results_cell_row h _ w g 71 (tb f) (0, 0) _ hp hg under71 rfl (by rw [tb_size]; exact size71)) hd hR
theorem below_setRow {B g : Nat} {a w : World} (h : Below B a w) (hg : B ≤ g) (cs : Array Value) : Below B a (w.setRow g cs) :=
  ⟨h.os, h.tape, h.output, by simpa using h.size, fun i hi => (setRow_other w g i cs (by omega)).trans (h.block i hi)⟩
theorem below2 (w : World) (A B : Obj) : Below w.heap.size w ((w.alloc A).alloc B) := ((Below.refl _ _).alloc (Nat.le_refl _) _).alloc (by simp) _
/-- a table, filled up to a place -/
def Upto (n : Nat) (m : Nat → Nat) (a b : Nat) (f : Nat → Int) : Prop := ∀ a' b', a' < n → b' < n → (a' < a ∨ a' = a ∧ b' < b) → f (a' * 16 + b') = bd n m a' b'
theorem Upto.step {n : Nat} {m : Nat → Nat} {a b : Nat} {f : Nat → Int} (hn : n ≤ 16) (hb : b < n) (h : Upto n m a b f) : Upto n m a (b + 1) (fun j => if j = a * 16 + b then bd n m a b else f j) := fun a' b' ha' hb' hlt => by
  by_cases e : a' * 16 + b' = a * 16 + b
  · have e1 : a' = a ∧ b' = b := by omega
    obtain ⟨rfl, rfl⟩ := e1
    simp
  · show (if a' * 16 + b' = a * 16 + b then bd n m a b else f (a' * 16 + b')) = _
    rw [if_neg e]; exact h a' b' ha' hb' (by omega)
set_option maxRecDepth 100000 in
set_option maxHeartbeats 8000000 in
theorem bounds_any (g n : Nat) (m : Nat → Nat) (hn : n ≤ 16) (hf : Fit n m) (w : World) (hm : Mb w g n m) :
    Calls Try.prog 56 #[.slice (some ⟨g, 0, none⟩) n n] w fun e w' => ∃ f, e = .returned (.agg (tb f)) ∧ Upto n m n 0 f ∧ Below w.heap.size w w' := by
  have HM := Lib.hid hm
  have HF := Lib.hid hf
  clear hm hf
  go_enter Try.func56, Try.ntmps56
  go_upto_region 2 with fail
  refine gen_world (fun w1 => Below w.heap.size w w1 ∧ Tk w1 w.heap.size (fun _ => 0) ∧ Tk w1 (w.heap.size + 1) (fun _ => 0)) ⟨below2 w _ _, (heap_alloc2_old w _ _).trans (by rw [zero71]), (heap_alloc2_new w _ _).trans (by rw [zero71])⟩ ?_
  rintro w1 ⟨hb, t2, t3⟩
  go_wp2_with fail
  go_loopw [8] (fun i wr => ∃ (a : Nat) (f : Nat → Int), a ≤ n ∧ i = .int .i64 (a : Int) ∧ Hid (Upto n m a 0 f) ∧ Below w.heap.size w wr ∧ Tk wr w.heap.size (fun _ => 0) ∧ Tk wr (w.heap.size + 1) f) (fun i _ => n - (intOf i).toNat)
  case atStart => exact ⟨0, _, by omega, rfl, Lib.hid (fun a' b' _ _ h => by omega), hb, t2, t3⟩
  case round =>
    clear hb t2 t3
    obtain ⟨a, f, ha, rfl, HU, hb, t2, t3⟩ := hrel
    by_cases hlt : a < n
    · have hlz : (a : Int) < (n : Int) := by omega
      go_wp2_with fail
      go_loopw [13] (fun i ws => ∃ (b : Nat) (f : Nat → Int), b ≤ n ∧ i = .int .i64 (b : Int) ∧ Hid (Upto n m a b f) ∧ Below w.heap.size w ws ∧ Tk ws w.heap.size (fun _ => 0) ∧ Tk ws (w.heap.size + 1) f) (fun i _ => n - (intOf i).toNat)
      case atStart => exact ⟨0, f, by omega, rfl, HU, hb, t2, t3⟩
      case round =>
        clear hb t2 t3
        obtain ⟨b, f', hbn, rfl, HU', hb, t2, t3⟩ := hrel
        by_cases hlb : b < n
        · have hlbz : (b : Int) < (n : Int) := by omega
          have hbz16 : (b : Int) < 16 := by omega
          have haz16 : (a : Int) < 16 := by omega
          have hcell := t3.cell (i := a * 16 + b) (by omega)
          have hfro := t3.frozen (a * 16 + b)
          have HC := Lib.hid (fun w h => bound_any g n m a b hn HF.out hlt hlb w h)
          have HU2 := Lib.hid (HU'.out.step hn hlb)
          have HMr := Lib.hid (HM.out.below hb HM.out.lt)
          generalize f' (a * 16 + b) = old at *
          generalize bd n m a b = z at *
          go_upto_region 8 with fail
          go_region_with (go_at_call 53; refine (HC.out wr.drew HMr.out).mono ?_; rintro e w' ⟨rfl, q, rfl⟩)
          all_goals
            go_wp2
            go_roundw
            case rel => exact ⟨b + 1, _, by omega, by go_num, HU2, Below.setCell (below_drewN hb (1 + q)) (by simp) _, Tk.far (t2.drewN (1 + q)) (by simp) _, (t3.drewN (1 + q)).set_ _ _⟩
            case measure => simp [intOf]; omega
        · have hlbz : ¬ (b : Int) < (n : Int) := by omega
          have HU2 : Hid (Upto n m (a + 1) 0 f') := Lib.hid (fun a' b' h1 h2 h3 => HU'.out a' b' h1 h2 (by omega))
          go_wp2
          go_roundw
          case rel => exact ⟨a + 1, f', by omega, by go_num, HU2, hb, t2, t3⟩
          case measure => simp [intOf]; omega
    · have hlz : ¬ (a : Int) < (n : Int) := by omega
      obtain rfl : a = n := by omega
      go_wp2_with (first | ((with_reducible apply load71); (exact rfl); assumption) | ((with_reducible apply store71); (exact rfl); (exact rfl); assumption))
      exact ret71 rfl rfl rfl (t2.setRow f) ⟨f, rfl, HU.out, below_setRow hb (Nat.le_refl _) _⟩
end Go.Proofs.Ytefnbjkmmmdagaa
