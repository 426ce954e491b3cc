/- PROVED here: contracts of fits, mask, Has (a number that fits) and With (a number that fits). No condition but those in each theorem's own head. -/
import Derived.Test.YtabdhmfjbielaaaDoorProg
import Derived.Test.YtabdhmfjbielaaaDoorM
import Derived.Tactics
import Derived.Tactics2
import Derived.WalkKit
import Derived.IntWalk
import Derived.KernelRfl
import Derived.Lib.Hide
import Derived.Below
import Derived.Deep.Draws
import Derived.Deep.QuietTactic
import Derived.BigQuiet
import Derived.StillTailTactics
import Derived.Deep.DeepCutAuto
import Derived.Laws.OwnMore
import Derived.Laws.Rows
import Derived.Laws.BitsAllLaws
import Derived.Laws.BitsLemmas
namespace Go.Proofs.YtabdhmfjbielaaaDoor
open Go Go.RowKit

/-- does a number lie within a set's bounds? -/
def fitsB (n : Int) : Bool := decide (0 ≤ n ∧ n < 4096)

theorem fits_any (n : Int) (w : World) : Calls Tryd.prog 37 #[.int .i64 n] w fun e w' => e = .returned (.bool (fitsB n)) ∧ w = w' := by
  by_cases h0 : 0 ≤ n
  · by_cases h1 : n < 4096
    · have : fitsB n = true := by simp [fitsB, h0, h1]
      rw [this]; clear this
      go_enter Tryd.func37, Tryd.ntmps37
      go_wp2
      go_ret
      simp
    · have : fitsB n = false := by simp [fitsB]; omega
      rw [this]; clear this
      go_enter Tryd.func37, Tryd.ntmps37
      go_wp2
      go_ret
      simp
  · have : fitsB n = false := by simp [fitsB]; omega
    rw [this]; clear this
    go_enter Tryd.func37, Tryd.ntmps37
    go_wp2
    go_ret
    simp

theorem ret_int {k : IntKind} {a b : Int} (h : a = b) : Ending.returned (.int k a) = .returned (.int k b) := by rw [h]
theorem wrap_u64 {a : Nat} (h : a < 18446744073709551616) : IntKind.u64.wrap (a : Int) = (a : Int) := by
  rw [IntKind.wrap_u64]; omega

theorem mask_any (n : Nat) (hn : n < 4096) (w : World) : Calls Tryd.prog 38 #[.int .i64 (n : Int)] w fun e w' => e = .returned (.int .u64 (maskN n : Int)) ∧ w = w' := by
  go_enter Tryd.func38, Tryd.ntmps38
  go_wp2
  go_ret
  exact ⟨ret_int (by have := wrap_u64 (mask_lt n); simpa [maskN] using this), rfl⟩

/-- 64 words -/
def ofF (f : Nat → Nat) : Array Value := Array.ofFn (n := 64) fun i => .int .u64 (f i : Int)
theorem ofF_size (f : Nat → Nat) : (ofF f).size = 64 := by simp [ofF]
theorem ofF_get (f : Nat → Nat) (i : Nat) (h : i < 64) : (ofF f)[i]? = some (.int .u64 (f i : Int)) := by
  simp [ofF, h]
theorem ofF_one (f : Nat → Nat) : (ofF f).all (·.oneCell') = true := by
  rw [Array.all_eq_true_iff_forall_mem]; intro x hx; simp [ofF] at hx; obtain ⟨i, rfl⟩ := hx; rfl
theorem ofF_set (f : Nat → Nat) (k x : Nat) : (ofF f).setIfInBounds k (.int .u64 (x : Int)) = ofF (fun i => if i = k then x else f i) := by
  apply Array.ext_getElem?
  intro i
  rw [Array.getElem?_setIfInBounds]
  by_cases h : k = i
  · subst h
    by_cases hk : k < 64 <;> simp [ofF, hk]
  · have h' : ¬ i = k := fun e => h e.symm
    rw [if_neg h]
    by_cases hi : i < 64
    · rw [ofF_get _ _ hi, ofF_get _ _ hi, if_neg h']
    · rw [Array.getElem?_eq_none (by rw [ofF_size]; omega), Array.getElem?_eq_none (by rw [ofF_size]; omega)]
theorem ofF_congr {f g : Nat → Nat} (h : ∀ i, i < 64 → f i = g i) : ofF f = ofF g := by
  unfold ofF
  congr 1; funext i; rw [h i i.2]

theorem ret_bool {a b : Bool} (h : a = b) : Ending.returned (.bool a) = .returned (.bool b) := by rw [h]
theorem neq_cast (a : Nat) : ((a : Int) != 0) = (a != 0) := by
  rw [Bool.eq_iff_iff]; simp
theorem below_drewN {B : Nat} {a w : World} (h : Below B a w) (n : Nat) : Below B a (w.drewN n) := ⟨h.os, h.tape, h.output, h.size, h.block⟩
theorem quiet_left {P : Program} {f : FuncId} {args : Array Value} {w : World} {n : Nat} {v : Value}
    (h : Calls P f args (w.drewN n) fun e w' => e = .returned v ∧ w.drewN n = w') : Calls P f args (w.drewN n) fun e w'' => e = .returned v ∧ ∃ m, w'' = w.drewN m :=
  h.mono fun _ _ ⟨he, hm⟩ => ⟨he, n, hm.symm⟩

/-- the value that is a set -/
def sv (s : Nat) : Value := .agg (ofF (wd s))

theorem has_any (s n : Nat) (hn : n < 4096) (w : World) : Calls Tryd.prog 17 #[.agg (ofF (wd s)), .int .i64 (n : Int)] w fun e w' => e = .returned (.bool (s.testBit n)) ∧ Below w.heap.size w w' := by
  have hf : fitsB n = true := by simp [fitsB]; omega
  have hg : (ofF (wd s))[n / 64]? = some (.int .u64 (wd s (n / 64) : Int)) := ofF_get _ _ (by omega)
  have hfa := fun w => fits_any n w
  rw [hf] at hfa
  have HFA := Lib.hid hfa
  clear hfa hf
  go_enter Tryd.func17, Tryd.ntmps17
  go_wp2
  go_quiet (first | (go_at_call 37; exact quiet_left (HFA.out _)) | (go_at_call 38; exact quiet_left (mask_any _ hn _)))
  go_wp2
  go_ret
  exact ⟨ret_bool (by rw [u64_and_nat _ _ (wd_lt _ _) (mask_lt _), ← and_mask, neq_cast]), below_drewN ((Below.refl _ _).alloc (Nat.le_refl _) _) _⟩

theorem flip_ {P : Program} {f : FuncId} {args : Array Value} {w : World} {v : Value} (h : Calls P f args w fun e w' => e = .returned v ∧ w = w') : Calls P f args w fun e w'' => e = .returned v ∧ w'' = w :=
  h.mono fun _ _ ⟨he, hm⟩ => ⟨he, hm.symm⟩
/-- a block known whole -/
def Blk (w : World) (g : Nat) (cs : Array Value) : Prop := w.heap[g]? = some (.cells cs 27 (0, 0))


theorem zero_lit : (#[.int .u64 0, .int .u64 0, .int .u64 0, .int .u64 0, .int .u64 0, .int .u64 0, .int .u64 0, .int .u64 0, .int .u64 0, .int .u64 0, .int .u64 0, .int .u64 0, .int .u64 0, .int .u64 0, .int .u64 0, .int .u64 0, .int .u64 0, .int .u64 0, .int .u64 0, .int .u64 0, .int .u64 0, .int .u64 0, .int .u64 0, .int .u64 0, .int .u64 0, .int .u64 0, .int .u64 0, .int .u64 0, .int .u64 0, .int .u64 0, .int .u64 0, .int .u64 0, .int .u64 0, .int .u64 0, .int .u64 0, .int .u64 0, .int .u64 0, .int .u64 0, .int .u64 0, .int .u64 0, .int .u64 0, .int .u64 0, .int .u64 0, .int .u64 0, .int .u64 0, .int .u64 0, .int .u64 0, .int .u64 0, .int .u64 0, .int .u64 0, .int .u64 0, .int .u64 0, .int .u64 0, .int .u64 0, .int .u64 0, .int .u64 0, .int .u64 0, .int .u64 0, .int .u64 0, .int .u64 0, .int .u64 0, .int .u64 0, .int .u64 0, .int .u64 0] : Array Value) = ofF (wd 0) := by kernel_rfl

theorem gen_world {P : Program} {c : Code} {Q : Exit → Act → World → Prop} {a : Act} {w : World} (R : World → Prop) (h : R w) (k : ∀ w', R w' → Code.wp P c Q a w') : Code.wp P c Q a w := k w h

theorem Blk.cell {w : World} {g : Nat} {cs : Array Value} (h : Blk w g cs) (i : Nat) : w.cell? ⟨g, i, none⟩ = cs[i]? := cell_of_row w g i cs 27 (0, 0) h
theorem Blk.frozen {w : World} {g : Nat} {cs : Array Value} (h : Blk w g cs) (i : Nat) : w.frozen? ⟨g, i, none⟩ = false := frozen_of_row w g i cs 27 h
theorem Blk.set_ {w : World} {g : Nat} {cs : Array Value} (h : Blk w g cs) (i : Nat) (u : Value) : Blk (w.setCell ⟨g, i, none⟩ u) g (cs.setIfInBounds i u) := heap_setCell_same w g i cs 27 u h
theorem Blk.far {w : World} {g : Nat} {cs : Array Value} (h : Blk w g cs) {p : Addr} (hp : g ≠ p.block) (u : Value) : Blk (w.setCell p u) g cs := (heap_setCell_other w p g u hp).trans h

/-- two blocks made, the second one empty -/
theorem two_blocks (w : World) (cs : Array Value) : Blk ((w.alloc (.cells cs 27)).alloc (.cells (ofF (wd 0)) 27)) w.heap.size cs ∧ Blk ((w.alloc (.cells cs 27)).alloc (.cells (ofF (wd 0)) 27)) (w.heap.size + 1) (ofF (wd 0)) :=
  ⟨heap_alloc2_old w _ _, heap_alloc2_new w _ _⟩

theorem under27 : Tryd.prog.underlying 27 = some (.struct (Tryd.prog.fieldsOf 27)) := by kernel_rfl
theorem size27 : (Tryd.prog.info? 27).map (·.size) = some 64 := by kernel_rfl
theorem load_lit {ops : Array Oper} {rest : List Oper} {d : Option Tmp} {ty : TypeId} {p : String} {af : Array Edge} {x : Operand} {a : Act} {w : World} {Q : Exit → Act → World → Prop}
    {g : Nat} {f : Nat → Nat} (hx : a.eval x = .pointer (some ⟨g, 0, none⟩)) (hg : Blk w g (ofF f)) (h : wpList Tryd.prog ops Q rest (a.put d (.agg (ofF f))) w) :
    wpList Tryd.prog ops Q (⟨d, .load 27 x, ty, p, af, none⟩ :: rest) a w :=
  wpList_load_row rfl 27 x rfl g hx 27 (ofF f) (0, 0) _ hg under27 rfl (by rw [ofF_size]; exact size27) h
theorem store_lit {ops : Array Oper} {rest : List Oper} {d : Option Tmp} {ty : TypeId} {p : String} {af : Array Edge} {x y : Operand} {a : Act} {w : World} {Q : Exit → Act → World → Prop}
    {g : Nat} {f f0 : Nat → Nat} (hx : a.eval x = .pointer (some ⟨g, 0, none⟩)) (hy : a.eval y = .agg (ofF f)) (hg : Blk w g (ofF f0)) (h : wpList Tryd.prog ops Q rest (a.put d undef) (w.setRow g (ofF f))) :
    wpList Tryd.prog ops Q (⟨d, .store 27 x y, ty, p, af, none⟩ :: rest) a w :=
  wpList_store_row rfl 27 x y rfl g (ofF f) hx hy 27 (ofF f0) hg (by rw [ofF_size]; exact size27) (by rw [ofF_size, ofF_size]) (ofF_one f) h

theorem ret_set {fn : Func} {R : Ending → World → Prop} {a : Act} {w : World} {p g : Nat} {f : Nat → Nat} (h : fn.results = #[.cell p 27]) (hd : a.defers = []) (hp : a.tmps.getD p undef = .pointer (some ⟨g, 0, none⟩))
    (hg : Blk w g (ofF f)) (hR : R (.returned (.agg (ofF f))) w) : bodyPost Tryd.prog fn R .ret a w :=
  bodyPost_ret (results_cell_row h _ w g 27 (ofF f) (0, 0) _ hp hg under27 rfl (by rw [ofF_size]; exact size27)) hd hR
theorem Blk.setRow {w : World} {g : Nat} {cs : Array Value} (h : Blk w g cs) (cs' : Array Value) : Blk (w.setRow g cs') g cs' := setRow_heap w g cs cs' 27 (0, 0) h
theorem Blk.setRow_far {w : World} {g k : Nat} {cs : Array Value} (h : Blk w k cs) (hk : k ≠ g) (cs' : Array Value) : Blk (w.setRow g cs') k cs := (setRow_other w g k cs' hk).trans h
theorem below_setRow {B g : Nat} {a w : World} (h : Below B a w) (hg : B ≤ g) (cs : Array Value) : Below B a (w.setRow g cs) :=
  ⟨h.os, h.tape, h.output, by simpa using h.size, fun i hi => (setRow_other w g i cs (by omega)).trans (h.block i hi)⟩

theorem with_fits (s n : Nat) (hn : n < 4096) (w : World) : Calls Tryd.prog 13 #[.agg (ofF (wd s)), .int .i64 (n : Int)] w fun e w' => e = .returned (.agg (ofF (wd (s ||| 2 ^ n)))) ∧ Below w.heap.size w w' := by
  have hf : fitsB n = true := by simp [fitsB]; omega
  have hfa := fun w => fits_any n w
  rw [hf] at hfa
  have HFA := Lib.hid hfa
  clear hfa hf
  go_enter Tryd.func13, Tryd.ntmps13
  go_wp2_with (first | (go_at_call 37; refine (HFA.out _).mono ?_; rintro e w' ⟨rfl, rfl⟩))
  refine gen_world (fun w1 => Below w.heap.size w w1 ∧ w1.heap.size = w.heap.size + 2 ∧ Blk w1 w.heap.size (ofF (wd s)) ∧ Blk w1 (w.heap.size + 1) (ofF (wd 0))) ⟨((Below.refl _ _).alloc (Nat.le_refl _) _).alloc (by simp) _, by simp, heap_alloc2_old w _ _, (heap_alloc2_new w _ _).trans (by rw [zero_lit])⟩ ?_
  rintro w1 ⟨hb, hz, h1, h2⟩
  have hg : w1.cell? ⟨w.heap.size, n / 64, none⟩ = some (.int .u64 (wd s (n / 64) : Int)) := (h1.cell _).trans (ofF_get _ _ (by omega))
  have hfz : w1.frozen? ⟨w.heap.size, n / 64, none⟩ = false := h1.frozen _
  have hx : IntKind.i64.wrap ((n : Int) / 64) = (n : Int) / 64 := IntWalk.i64_in _ (by omega)
  have hx0 : 0 ≤ (n : Int) / 64 := by omega
  have hx2 : ((n : Int) / 64).toNat = n / 64 := by omega
  have hx1 : (n : Int) / 64 < 64 := by omega
  refine wp_region_still_tail 10 (by kernel_rfl) (by kernel_rfl) ?_
  simp only [List.take_succ_cons, List.take_zero, List.drop_succ_cons, List.drop_zero]
  repeat (first | still_call (flip_ (mask_any _ hn _)) | still_step)
  refine wpStill_nil ?_
  clear hx hx2
  have hb2 : Below w.heap.size w w1.drew := ⟨hb.os, hb.tape, hb.output, hb.size, hb.block⟩
  have h1' : Blk w1.drew w.heap.size (ofF (wd s)) := h1
  have h2' : Blk w1.drew (w.heap.size + 1) (ofF (wd 0)) := h2
  have hg' : w1.drew.cell? ⟨w.heap.size, n / 64, none⟩ = some (.int .u64 (wd s (n / 64) : Int)) := hg
  have hfz' : w1.drew.frozen? ⟨w.heap.size, n / 64, none⟩ = false := hfz
  clear hb h1 h2 hg hfz hz
  change wpList _ _ _ _ _ w1.drew
  generalize w1.drew = w2 at *
  go_upto_region 3 with fail
  refine gen_world (fun w3 => Below w.heap.size w w3 ∧ Blk w3 w.heap.size (ofF (wd (s ||| 2 ^ n))) ∧ Blk w3 (w.heap.size + 1) (ofF (wd 0)))
    ⟨hb2.setCell (by simp) _, by
      rw [u64_or_nat _ _ (wd_lt _ _) (mask_lt _)]
      have := h1'.set_ (n / 64) (.int .u64 ((wd s (n / 64) ||| maskN n : Nat) : Int))
      rw [ofF_set, ofF_congr (fun i _ => wd_with s n i)] at this
      exact this, h2'.far (by simp) _⟩ ?_
  rintro w3 ⟨hb3, h31, h32⟩
  clear hg' hfz' h1' h2' hb2
  go_wp2_with (first | ((with_reducible apply load_lit); (exact rfl); assumption) | ((with_reducible apply store_lit); (exact rfl); (exact rfl); assumption))
  exact ret_set rfl rfl rfl (h32.setRow _) ⟨rfl, below_setRow hb3 (by omega) _⟩
end Go.Proofs.YtabdhmfjbielaaaDoor
