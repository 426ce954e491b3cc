/- PROVED here: words for a row of masks; contracts of selves and of slices.Index and slices.Contains at masks. No condition but those in each theorem's own head. -/
import Derived.Test.YtefnbjkmmmdagaaC
import Derived.Laws.MakeOwn
namespace Go.Proofs.Ytefnbjkmmmdagaa
open Go Go.RowKit

/-- a row of masks -/
def mk (n : Nat) (m : Nat → Nat) : Array Value := Array.ofFn (n := n) fun i => .int .u32 (m i : Int)
theorem mk_size (n : Nat) (m : Nat → Nat) : (mk n m).size = n := by simp [mk]
theorem mk_get {n : Nat} {m : Nat → Nat} {i : Nat} (h : i < n) : (mk n m)[i]? = some (.int .u32 (m i : Int)) := by simp [mk, h]
theorem mk_set {n : Nat} {m : Nat → Nat} {i x : Nat} : (mk n m).setIfInBounds i (.int .u32 (x : Int)) = mk n (fun j => if j = i then x else m j) := by
  apply Array.ext_getElem?
  intro j
  rw [Array.getElem?_setIfInBounds]
  by_cases h : i = j
  · subst h
    by_cases hk : i < n <;> simp [mk, hk]
  · have h' : ¬ j = i := fun e => h e.symm
    rw [if_neg h]
    by_cases hi : j < n
    · rw [mk_get hi, mk_get hi, if_neg h']
    · rw [Array.getElem?_eq_none (by rw [mk_size]; omega), Array.getElem?_eq_none (by rw [mk_size]; omega)]
theorem mk_congr {n : Nat} {m m' : Nat → Nat} (h : ∀ i, i < n → m i = m' i) : mk n m = mk n m' := by
  unfold mk; congr 1; funext i; rw [h i i.2]
/-- a block that is a row of masks -/
def Mb (w : World) (g n : Nat) (m : Nat → Nat) : Prop := w.heap[g]? = some (.cells (mk n m) 53 (0, 0))
section
variable {w w' : World} {g n : Nat} {m : Nat → Nat}
theorem Mb.lt (h : Mb w g n m) : g < w.heap.size := (Array.getElem?_eq_some_iff.1 h).1
theorem Mb.cell (h : Mb w g n m) {i : Nat} (hi : i < n) : w.cell? ⟨g, i, none⟩ = some (.int .u32 (m i : Int)) := (cell_of_row w g i _ 53 (0, 0) h).trans (mk_get hi)
theorem Mb.frozen (h : Mb w g n m) (i : Nat) : w.frozen? ⟨g, i, none⟩ = false := frozen_of_row w g i _ 53 h
theorem Mb.set_ (h : Mb w g n m) (i x : Nat) : Mb (w.setCell ⟨g, i, none⟩ (.int .u32 (x : Int))) g n (fun j => if j = i then x else m j) := (heap_setCell_same w g i _ 53 _ h).trans (by rw [mk_set])
theorem Mb.far (h : Mb w g n m) {p : Addr} (hp : g ≠ p.block) (u : Value) : Mb (w.setCell p u) g n m := (heap_setCell_other w p g u hp).trans h
theorem Mb.below {B : Nat} (h : Mb w g n m) (hb : Below B w w') (hg : g < B) : Mb w' g n m := (hb.block g hg).trans h
theorem Mb.grown {row : Option Nat} (h : Mb w g n m) (hb : w.grownBy w' row) (hg : some g ≠ row) : Mb w' g n m := (hb.block g h.lt hg).trans h
theorem Mb.congr {m' : Nat → Nat} (h : Mb w g n m) (e : ∀ i, i < n → m i = m' i) : Mb w g n m' := by unfold Mb at *; rw [h, mk_congr e]
theorem Mb.drewN (h : Mb w g n m) (k : Nat) : Mb (w.drewN k) g n m := h
end
theorem info53 : (Try.prog.info? 53).map (fun i => (i.zero, i.size, i.bytes)) = some (some (.int .u32 0), 1, 4) := by kernel_rfl
theorem made0 (n : Nat) : madeCells #[.int .u32 0] n = mk n (fun _ => 0) := by
  apply Array.ext_getElem?
  intro j
  by_cases h : j < n
  · rw [mk_get h]; simp [madeCells, h, Nat.mod_one]
  · rw [Array.getElem?_eq_none (by simp [madeCells]; omega), Array.getElem?_eq_none (by rw [mk_size]; omega)]
theorem make49 (n : Nat) (hn : n ≤ 16) (w : World) : (Instr.makeSlice 49 (.int .i64 (n : Int)) (.int .i64 (n : Int))).run Try.prog w = .ok (.slice (some ⟨w.heap.size, 0, none⟩) n n) (w.alloc (.cells (mk n (fun _ => 0)) 53)) := by
  have h := info53
  cases hq : Try.prog.info? 53 with
  | none => rw [hq] at h; cases h
  | some i =>
    rw [hq] at h
    simp only [Option.map_some, Option.some.injEq, Prod.mk.injEq] at h
    obtain ⟨h1, h2, h3⟩ := h
    have := run_make (P := Try.prog) w 49 53 i (.int .u32 0) Try.underlying49 hq h1 .i64 .i64 (n : Int) (n : Int) (by omega) (Int.le_refl _) (by rw [h3]; omega) (by omega)
    rw [this, h2]
    simp only [Int.toNat_natCast, Nat.mul_one]
    rw [show (Value.int .u32 0).cells = #[.int .u32 0] from rfl, made0]
set_option maxRecDepth 100000 in
set_option maxHeartbeats 4000000 in
theorem selves_any (n : Nat) (hn : n ≤ 16) (w : World) : Calls Try.prog 34 #[.int .i64 (n : Int)] w fun e w' => e = .returned (.slice (some ⟨w.heap.size, 0, none⟩) n n) ∧ Below w.heap.size w w' ∧ Mb w' w.heap.size n (fun i => 2 ^ i) := by
  have hmk := make49 n hn
  go_enter Try.func34, Try.ntmps34
  go_upto_region 2 with fail
  clear hmk
  refine gen_world (fun w1 => Below w.heap.size w w1 ∧ Mb w1 w.heap.size n (fun i => if i < 0 then 2 ^ i else 0)) ⟨heap1 w _, (heap_alloc_new w _).trans (by rw [mk_congr (m' := fun i => if i < 0 then 2 ^ i else 0) (fun i _ => by simp)])⟩ ?_
  rintro w1 ⟨hb, hm⟩
  go_wp2_with fail
  go_loopw [9] (fun i wr => ∃ k : Nat, k ≤ n ∧ i = .int .i64 (k : Int) ∧ Below w.heap.size w wr ∧ Mb wr w.heap.size n (fun i => if i < k then 2 ^ i else 0)) (fun i _ => n - (intOf i).toNat)
  case atStart => exact ⟨0, by omega, rfl, hb, hm⟩
  case round =>
    clear hb hm
    obtain ⟨k, hk, rfl, hb, hm⟩ := hrel
    by_cases hlt : k < n
    · have hlz : (k : Int) < (n : Int) := by omega
      have hc := hm.cell hlt
      have hf := hm.frozen k
      go_wp2_with (go_at_call 36; refine (bit_any k (by omega) _).mono ?_; rintro e w' ⟨rfl, rfl⟩)
      go_roundw
      case rel => exact ⟨k + 1, by omega, by go_num, hb.setCell (by simp) _, (hm.set_ k _).congr (fun i hi => by
        by_cases e : i = k
        · subst e; simp
        · by_cases e2 : i < k
          · rw [if_neg e, if_pos e2, if_pos (by omega)]
          · rw [if_neg e, if_neg e2, if_neg (by omega)])⟩
      case measure => simp [intOf]; omega
    · have hlz : ¬ (k : Int) < (n : Int) := by omega
      go_wp2
      go_ret
      exact ⟨rfl, hb, hm.congr (fun i hi => by rw [if_pos (by omega)])⟩
/-- the list of a row of masks -/
def ml (n : Nat) (m : Nat → Nat) : List Nat := (List.range n).map m
theorem ml_len (n : Nat) (m : Nat → Nat) : (ml n m).length = n := by simp [ml]
theorem ml_get {n : Nat} {m : Nat → Nat} {i : Nat} (h : i < (ml n m).length) : (ml n m)[i] = m i := by simp [ml]
/-- where a mask first lies in a row, or -1 -/
def idxM (n : Nat) (m : Nat → Nat) (x : Nat) : Int := idxO (ml n m) x
theorem idxM_hit {n : Nat} {m : Nat → Nat} {x i : Nat} (hi : i < n) (he : m i = x) (h : ∀ j, j < i → m j ≠ x) : idxM n m x = i :=
  idxO_hit (by rw [ml_len]; exact hi) (by rw [ml_get]; exact he) (fun j hj hji => by rw [ml_get]; exact h j hji)
theorem idxM_miss {n : Nat} {m : Nat → Nat} {x : Nat} (h : ∀ j, j < n → m j ≠ x) : idxM n m x = -1 :=
  idxO_miss (fun j hj => by rw [ml_get]; exact h j (by rwa [ml_len] at hj))
theorem idxM_spec (n : Nat) (m : Nat → Nat) (x : Nat) : (idxM n m x = -1 ∧ ∀ j, j < n → m j ≠ x) ∨ ∃ i : Nat, i < n ∧ idxM n m x = i ∧ m i = x ∧ ∀ j, j < i → m j ≠ x := by
  rcases idxO_spec (ml n m) x with ⟨h1, h2⟩ | ⟨i, hi, h1, h2, h3⟩
  · exact .inl ⟨h1, fun j hj => by have := h2 j (by rwa [ml_len]); rwa [ml_get] at this⟩
  · have hi' : i < n := by rwa [ml_len] at hi
    exact .inr ⟨i, hi', h1, by rwa [ml_get] at h2, fun j hj => by have := h3 j (by rw [ml_len]; omega) hj; rwa [ml_get] at this⟩
set_option maxRecDepth 100000 in
set_option maxHeartbeats 2000000 in
theorem indexM_core (g n p c : Nat) (m : Nat → Nat) (x : Nat) (r : Int) (hp : p ≤ n) (H : Hid (idxM p m x = r)) (w : World) (hn : n ≤ 16) (hm : Mb w g n m) :
    Calls Try.prog 49 #[.slice (some ⟨g, 0, none⟩) p c, .int .u32 (x : Int)] w fun e w' => e = .returned (.int .i64 r) ∧ w = w' := by
  have HM := Lib.hid hm
  clear hm
  go_enter Try.func49, Try.ntmps49
  go_wp2
  go_loop [8] (fun i => ∃ k : Nat, k ≤ p ∧ i = .int .i64 (k : Int) ∧ Hid (∀ j, j < k → m j ≠ x)) (fun i => p - (intOf i).toNat)
  case atStart => exact ⟨0, by omega, rfl, Lib.hid (fun j h => by omega)⟩
  case round =>
    obtain ⟨k, hk, rfl, HN⟩ := hrel
    by_cases hlt : k < p
    · have hlz : (k : Int) < (p : Int) := by omega
      have hck := HM.out.cell (i := k) (by omega)
      by_cases he : m k = x
      · have HR := Lib.hid ((idxM_hit hlt he HN.out).symm.trans H.out)
        rw [he] at hck
        clear he
        go_wp2
        go_ret
        exact ⟨ret_int HR.out, rfl⟩
      · have HN2 := Lib.hid (fun j (h : j < k + 1) => show m j ≠ x by
          by_cases e : j = k
          · subst e; exact he
          · exact HN.out j (by omega))
        generalize m k = y at *
        have hq : ((x : Int) == (y : Int)) = false := by rw [beq_eq_false_iff_ne]; omega
        clear he
        go_wp2
        go_round
        case rel => exact ⟨k + 1, by omega, by go_num, HN2⟩
        case measure => simp [intOf]; omega
    · have hlz : ¬ (k : Int) < (p : Int) := by omega
      have HR := Lib.hid ((idxM_miss (fun j hj => HN.out j (by omega))).symm.trans H.out)
      go_wp2
      go_ret
      exact ⟨ret_int HR.out, rfl⟩
theorem indexM (g n p c : Nat) (m : Nat → Nat) (x : Nat) (hp : p ≤ n) (w : World) (hn : n ≤ 16) (hm : Mb w g n m) :
    Calls Try.prog 49 #[.slice (some ⟨g, 0, none⟩) p c, .int .u32 (x : Int)] w fun e w' => e = .returned (.int .i64 (idxM p m x)) ∧ w = w' := indexM_core g n p c m x _ hp (Lib.hid rfl) w hn hm
theorem containsM (g n p c : Nat) (m : Nat → Nat) (x : Nat) (hp : p ≤ n) (w : World) (hn : n ≤ 16) (hm : Mb w g n m) :
    Calls Try.prog 52 #[.slice (some ⟨g, 0, none⟩) p c, .int .u32 (x : Int)] w fun e w' => e = .returned (.bool (decide (0 ≤ idxM p m x))) ∧ w = w' := by
  have HI := Lib.hid (fun w h => indexM g n p c m x hp w hn h)
  have HA := Lib.hid hm
  clear hm
  generalize idxM p m x = r at *
  go_enter Try.func52, Try.ntmps52
  go_wp2_with (go_at_call 49; refine (HI.out _ HA.out).mono ?_; rintro e w' ⟨rfl, rfl⟩)
  go_ret
  exact ⟨rfl, rfl⟩
end Go.Proofs.Ytefnbjkmmmdagaa
