/- PROVED here: the contracts of small and shown. No condition but those in each theorem's own head. -/
import Derived.Test.YtefnbjkmmmdagaaL
namespace Go.Proofs.Ytefnbjkmmmdagaa
open Go Go.RowKit

def SmallPost (w : World) (e : Ending) (w' : World) : Prop := ∃ b, e = .returned (.bool b) ∧ w = w'
set_option maxRecDepth 100000 in
set_option maxHeartbeats 4000000 in
theorem small_any (A : Option Addr) (c : Nat) (l : List ByteArray) (B : Option Addr) (d : Nat) (ps : List (ByteArray × ByteArray)) (w : World) (hA : Strs w A l) (hB : Prs w B ps) :
    Calls Try.prog 9 #[.slice A l.length c, .slice B ps.length d] w (SmallPost w) := by
  have HA := Lib.hid hA
  have HB := Lib.hid hB
  clear hA hB
  by_cases h20 : 20 < l.length
  · have hz : (20 : Int) < (l.length : Int) := by omega
    go_enter Try.func9, Try.ntmps9
    go_wp2
    go_ret
    exact ⟨_, rfl, rfl⟩
  · have hz : ¬ (20 : Int) < (l.length : Int) := by omega
    by_cases h300 : 300 < ps.length
    · have hz3 : (300 : Int) < (ps.length : Int) := by omega
      go_enter Try.func9, Try.ntmps9
      go_wp2
      go_ret
      exact ⟨_, rfl, rfl⟩
    · have hz3 : ¬ (300 : Int) < (ps.length : Int) := by omega
      go_enter Try.func9, Try.ntmps9
      go_wp2
      go_loop [5] (fun i => ∃ k : Nat, k ≤ l.length ∧ i = .int .i64 (k : Int)) (fun i => l.length - (intOf i).toNat)
      case atStart => exact ⟨0, by omega, rfl⟩
      case round =>
        obtain ⟨k, hk, rfl⟩ := hrel
        by_cases hlt : k < l.length
        · have hlz : (k : Int) < (l.length : Int) := by omega
          obtain ⟨b, off, rfl, hb, hc⟩ := HA.out (by omega)
          have hck := hc k hlt
          clear hc
          generalize l[k] = x at *
          by_cases hs : 100 < x.size
          · have hsz : (100 : Int) < (x.size : Int) := by omega
            go_wp2
            go_ret
            exact ⟨_, rfl, rfl⟩
          · have hsz : ¬ (100 : Int) < (x.size : Int) := by omega
            go_wp2
            go_round
            case rel => exact ⟨k + 1, by omega, by go_num⟩
            case measure => simp [intOf]; omega
        · have hlz : ¬ (k : Int) < (l.length : Int) := by omega
          go_wp2
          go_loop [6] (fun i => ∃ k : Nat, k ≤ ps.length ∧ i = .int .i64 (k : Int)) (fun i => ps.length - (intOf i).toNat)
          case atStart => exact ⟨0, by omega, rfl⟩
          case round =>
            obtain ⟨j, hj, rfl⟩ := hrel
            by_cases hlj : j < ps.length
            · have hljz : (j : Int) < (ps.length : Int) := by omega
              obtain ⟨b, off, rfl, hb, hc⟩ := HB.out (by omega)
              obtain ⟨hc1, hc2⟩ := hc j hlj
              clear hc
              generalize ps[j].1 = x at *
              generalize ps[j].2 = y at *
              by_cases hs : 100 < x.size
              · have hsz : (100 : Int) < (x.size : Int) := by omega
                go_wp2
                go_ret
                exact ⟨_, rfl, rfl⟩
              · have hsz : ¬ (100 : Int) < (x.size : Int) := by omega
                by_cases hs2 : 100 < y.size
                · have hsz2 : (100 : Int) < (y.size : Int) := by omega
                  go_wp2
                  go_ret
                  exact ⟨_, rfl, rfl⟩
                · have hsz2 : ¬ (100 : Int) < (y.size : Int) := by omega
                  go_wp2
                  go_round
                  case rel => exact ⟨j + 1, by omega, by go_num⟩
                  case measure => simp [intOf]; omega
            · have hljz : ¬ (j : Int) < (ps.length : Int) := by omega
              go_wp2
              go_ret
              exact ⟨_, rfl, rfl⟩
theorem strs_new (w : World) (l : List ByteArray) : Strs (w.alloc (.cells (l.map Value.string).toArray 9)) (some ⟨w.heap.size, 0, none⟩) l := fun _ =>
  ⟨w.heap.size, 0, rfl, by simp, fun j hj => by
    rw [Nat.zero_add, cell_of_row _ w.heap.size j _ 9 (0, 0) (heap_alloc_new w _)]; simp [hj]⟩
def flat (ps : List (ByteArray × ByteArray)) : List Value := ps.flatMap fun p => [.string p.1, .string p.2]
theorem flat_get : ∀ (ps : List (ByteArray × ByteArray)) (j : Nat) (hj : j < ps.length), (flat ps)[j * 2]? = some (.string ps[j].1) ∧ (flat ps)[j * 2 + 1]? = some (.string ps[j].2)
  | p :: ps, 0, _ => ⟨rfl, rfl⟩
  | p :: ps, j + 1, hj => by
    have ih := flat_get ps j (by simpa using hj)
    have e : flat (p :: ps) = .string p.1 :: .string p.2 :: flat ps := rfl
    rw [e, show (j + 1) * 2 = j * 2 + 1 + 1 by omega]
    exact ih
theorem prs_new (w : World) (ps : List (ByteArray × ByteArray)) : Prs (w.alloc (.cells (flat ps).toArray 45)) (some ⟨w.heap.size, 0, none⟩) ps := fun _ =>
  ⟨w.heap.size, 0, rfl, by simp, fun j hj => by
    obtain ⟨h1, h2⟩ := flat_get ps j hj
    rw [Nat.zero_add, cell_of_row _ w.heap.size (j * 2) _ 45 (0, 0) (heap_alloc_new w _), cell_of_row _ w.heap.size (j * 2 + 1) _ 45 (0, 0) (heap_alloc_new w _)]
    exact ⟨by simpa using h1, by simpa using h2⟩⟩
def OkPost (l : List ByteArray) (ps : List (ByteArray × ByteArray)) (w : World) (e : Ending) (w' : World) : Prop :=
  ∃ g, w.heap.size ≤ g ∧ e = .returned (.tuple #[.pointer (some ⟨g, 0, none⟩), .int .i64 0]) ∧ Below w.heap.size w w' ∧ Lat w' g l (uOf l ps) (dOf l ps)
/-- New at names and pairs that were laid just now -/
theorem new_lit (l : List ByteArray) (ps : List (ByteArray × ByteArray)) (hl : l.length ≤ 16) (hp : ps.length ≤ 300) (hs : ∀ s ∈ l, s.size ≤ 20) (w : World) :
    Calls Try.prog 10 #[.slice (some ⟨w.heap.size, 0, none⟩) l.length l.length, .slice (some ⟨w.heap.size + 1, 0, none⟩) ps.length ps.length] ((w.alloc (.cells (l.map Value.string).toArray 9)).alloc (.cells (flat ps).toArray 45)) (NewPost l ps w) := by
  have h2 : Strs ((w.alloc (.cells (l.map Value.string).toArray 9)).alloc (.cells (flat ps).toArray 45)) (some ⟨w.heap.size, 0, none⟩) l := (strs_new w l).below (heap1 _ _)
  have h3 := prs_new (w.alloc (.cells (l.map Value.string).toArray 9)) ps
  rw [show (w.alloc (.cells (l.map Value.string).toArray 9)).heap.size = w.heap.size + 1 by simp] at h3
  refine (new_any _ l.length l _ ps.length ps _ (by unfold maxLen; omega) (Nat.le_refl _) (fun s hm => by have := hs s hm; unfold maxLen; omega) h2 (by unfold maxLen; omega) h3).mono ?_
  have hb := below2 w (.cells (l.map Value.string).toArray 9) (.cells (flat ps).toArray 45)
  rintro e w' (⟨h1, h2, h3⟩ | ⟨h1, g, h2, h3, h4, h5⟩)
  · exact .inl ⟨h1, h2, bt hb h3⟩
  · exact .inr ⟨h1, g, Nat.le_trans hb.size h2, h3, bt hb h4, h5⟩
theorem new_ok {l : List ByteArray} {ps : List (ByteArray × ByteArray)} {w : World} {e : Ending} {w' : World} (h : NewPost l ps w e w') (hz : newE l ps = 0) : OkPost l ps w e w' := by
  rcases h with ⟨h1, _⟩ | ⟨_, h⟩
  · exact absurd hz h1
  · exact h
theorem new_bad {l : List ByteArray} {ps : List (ByteArray × ByteArray)} {w : World} {e : Ending} {w' : World} {r : Nat} (h : NewPost l ps w e w') (hr : newE l ps = r) (hz : r ≠ 0) : e = .returned (.tuple #[.pointer none, .int .i64 (r : Int)]) ∧ Below w.heap.size w w' := by
  rcases h with ⟨_, h⟩ | ⟨h1, _⟩
  · rw [hr] at h; exact h
  · exact absurd (hr.symm.trans h1) hz
def bs (l : List UInt8) : ByteArray := ⟨l.toArray⟩
def nLow : ByteArray := ⟨#[108, 111, 119]⟩
def nA : ByteArray := ⟨#[97]⟩
def nB : ByteArray := ⟨#[98]⟩
def nHigh : ByteArray := ⟨#[104, 105, 103, 104]⟩
def nX : ByteArray := ⟨#[120]⟩
def nY : ByteArray := ⟨#[121]⟩
def ex1L : List ByteArray := [nLow, nA, nB, nHigh]
def ex1P : List (ByteArray × ByteArray) := [(nLow, nA), (nLow, nB), (nA, nHigh), (nB, nHigh)]
def ex2L : List ByteArray := [nLow, nA, nB]
def ex2P : List (ByteArray × ByteArray) := [(nLow, nA), (nLow, nB)]
def ex3L : List ByteArray := [nX, nY]
def ex3P : List (ByteArray × ByteArray) := [(nX, nY), (nY, nX)]
theorem ex1_ok : newE ex1L ex1P = 0 := by decide +kernel
theorem ex2_no : newE ex2L ex2P = 9 := by decide +kernel
theorem ex3_no : newE ex3L ex3P = 9 := by decide +kernel
theorem ex1_j12 : bd 4 (uOf ex1L ex1P) 1 2 = 3 := by decide +kernel
theorem ex1_m12 : bd 4 (dOf ex1L ex1P) 1 2 = 0 := by decide +kernel
theorem ex1_j01 : bd 4 (uOf ex1L ex1P) 0 1 = 1 := by decide +kernel
theorem ex1_bot : idxM 4 (uOf ex1L ex1P) (2 ^ 4 - 1) = 0 := by decide +kernel
theorem ex1_top : idxM 4 (dOf ex1L ex1P) (2 ^ 4 - 1) = 3 := by decide +kernel
end Go.Proofs.Ytefnbjkmmmdagaa
