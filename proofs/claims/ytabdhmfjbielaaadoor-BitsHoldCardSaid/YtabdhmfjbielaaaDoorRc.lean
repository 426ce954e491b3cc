/- PROVED here: the contract of the document's own Without over a list. No condition but those in each theorem's own head. -/
import Derived.Test.YtabdhmfjbielaaaDoorRb
namespace Go.Proofs.YtabdhmfjbielaaaDoor
open Go Go.RowKit

/-- a one-field struct that lies in a block -/
def Blk1 (w : World) (g : Nat) (v : Value) : Prop := w.heap[g]? = some (.cells #[v] 30 (0, 0))
theorem Blk1.cell {w : World} {g : Nat} {v : Value} (h : Blk1 w g v) : w.cell? ⟨g, 0, none⟩ = some v := (cell_of_row w g 0 #[v] 30 (0, 0) h).trans rfl
theorem Blk1.frozen {w : World} {g : Nat} {v : Value} (h : Blk1 w g v) : w.frozen? ⟨g, 0, none⟩ = false := frozen_of_row w g 0 #[v] 30 h
theorem Blk1.set_ {w : World} {g : Nat} {v : Value} (h : Blk1 w g v) (u : Value) : Blk1 (w.setCell ⟨g, 0, none⟩ u) g u := (heap_setCell_same w g 0 #[v] 30 u h).trans rfl
theorem Blk1.far {w : World} {g : Nat} {v : Value} (h : Blk1 w g v) {p : Addr} (hp : g ≠ p.block) (u : Value) : Blk1 (w.setCell p u) g v := (heap_setCell_other w p g u hp).trans h
theorem under30 : Tryd.prog.underlying 30 = some (.struct (Tryd.prog.fieldsOf 30)) := by kernel_rfl
theorem size30 : (Tryd.prog.info? 30).map (·.size) = some 1 := by kernel_rfl
theorem ret30 {fn : Func} {R : Ending → World → Prop} {a : Act} {w : World} {p g : Nat} {v : Value} (h : fn.results = #[.cell p 30]) (hd : a.defers = []) (hp : a.tmps.getD p undef = .pointer (some ⟨g, 0, none⟩))
    (hg : Blk1 w g v) (hR : R (.returned (.agg #[v])) w) : bodyPost Tryd.prog fn R .ret a w :=
  bodyPost_ret (results_cell_row h _ w g 30 #[v] (0, 0) _ hp hg under30 rfl (by exact size30)) hd hR
/-- a slice, as the document's set has it -/
def RL (w : World) (A : Option Addr) (c : Nat) (l : List Int) : Prop := Ints w A l ∧ l.length ≤ c ∧ c ≤ 9223372036854775807
def RPost (l : List Int) (w : World) (e : Ending) (w' : World) : Prop := ∃ A c, e = .returned (.agg #[.slice A l.length c]) ∧ RL w' A c l ∧ Below w.heap.size w w'
theorem own_RL {w : World} {base : Nat} {v : Value} {l : List Int} (h : w.ownsRow base 3 1 v l.length (l.map (Value.int .i64))) : ∃ A c, v = .slice A l.length c ∧ RL w A c l := by
  rcases h.2 with ⟨rfl, e⟩ | ⟨g, cap, cur, rfl, _, hg, hn, hm, _⟩
  · exact ⟨none, 0, by rw [e], fun h0 => by omega, by omega, by omega⟩
  · exact ⟨_, _, rfl, Ints.of_own h, hn, by unfold maxLen at hm; omega⟩
theorem RL.below {w w' : World} {A : Option Addr} {c : Nat} {l : List Int} (h : RL w A c l) (hb : Below w.heap.size w w') : RL w' A c l := ⟨h.1.below hb, h.2.1, h.2.2⟩
theorem RL.setCell {w : World} {A : Option Addr} {c : Nat} {l : List Int} (h : RL w A c l) {g : Nat} (hg : ∀ b off, A = some ⟨b, off, none⟩ → b ≠ g) (u : Value) : RL (w.setCell ⟨g, 0, none⟩ u) A c l :=
  ⟨fun h0 => by
    obtain ⟨b, off, e, hl, hc⟩ := h.1 h0
    refine ⟨b, off, e, by simpa [World.setCell] using hl, fun j hj => ?_⟩
    exact (World.cell?_setCell_other w ⟨g, 0, none⟩ ⟨b, off + j, none⟩ u (fun e2 => hg b off e (by have := congrArg Addr.block e2; simpa using this.symm))).trans (hc j hj), h.2.1, h.2.2⟩
/-- the list without a number, as far as it was gone through -/
def wo (n : Int) (l : List Int) : List Int := l.filter fun x => decide (x ≠ n)
theorem wo_len (n : Int) (l : List Int) : (wo n l).length ≤ l.length := List.length_filter_le _ _
theorem wo_take (n : Int) (l : List Int) (k : Nat) (hk : k < l.length) : wo n (l.take (k + 1)) = wo n (l.take k) ++ if l.getD k 0 = n then [] else [l.getD k 0] := by
  have hg : l.getD k 0 = l[k] := by simp [hk]
  unfold wo
  rw [List.take_succ_eq_append_getElem hk, List.filter_append, hg]
  by_cases h : l[k] = n <;> simp [h]

set_option maxRecDepth 100000 in
set_option maxHeartbeats 4000000 in
theorem RWithout (A : Option Addr) (c : Nat) (l : List Int) (n : Int) (w : World) (hl : l.length ≤ 4096) (hI : Ints w A l) :
    Calls Tryd.prog 16 #[.agg #[.slice A l.length c], .int .i64 n] w (RPost (wo n l) w) := by
  obtain ⟨i0, hi, hz0, hz1, hz2⟩ := info_parts info3
  have HI := Lib.hid hI
  clear hI
  go_enter Tryd.func16, Tryd.ntmps16
  go_upto_region 1 with fail
  refine gen_world (fun w1 => Below w.heap.size w w1 ∧ w1.heap.size = w.heap.size + 2 ∧ Blk1 w1 w.heap.size (.slice A l.length c) ∧ Blk1 w1 (w.heap.size + 1) (.slice none 0 0)) ⟨below2 w _ _, by simp, heap_alloc2_old w _ _, heap_alloc2_new w _ _⟩ ?_
  rintro w1 ⟨hb, hz, h1, h2⟩
  go_wp2_with fail
  go_loopw [5, 6] (fun v i wr => ∃ k : Nat, k ≤ l.length ∧ i = .int .i64 k ∧ wr.ownsRow (w.heap.size + 2) 3 1 v (wo n (l.take k)).length ((wo n (l.take k)).map (Value.int .i64)) ∧ Below w.heap.size w wr ∧ w.heap.size + 2 ≤ wr.heap.size ∧ Blk1 wr w.heap.size (.slice A l.length c) ∧ Blk1 wr (w.heap.size + 1) (.slice none 0 0)) (fun _ i _ => l.length - (intOf i).toNat)
  case atStart => exact ⟨0, by omega, rfl, World.ownsRow_nil _ _ _ _, hb, by omega, h1, h2⟩
  case round =>
    clear hb hz h1 h2
    obtain ⟨k, hk, rfl, hown, hb, hz, h1, h2⟩ := hrel
    have hc1 := h1.cell
    by_cases hlt : k < l.length
    · have hlz : (k : Int) < (l.length : Int) := by omega
      obtain ⟨b, off, rfl, hbl, hc⟩ := HI.out (by omega)
      have hck := (hb.cell (p := ⟨b, off + k, none⟩) hbl).trans (hc k hlt)
      have HW := Lib.hid (wo_take n l k hlt)
      have hwl := wo_len n (l.take k)
      have htl : (l.take k).length ≤ k := List.length_take_le _ _
      clear hc
      by_cases he : l.getD k 0 = n
      · rw [he] at hck
        have HE := Lib.hid (HW.out.trans (by rw [if_pos he, List.append_nil]))
        clear he
        go_wp2
        go_roundw
        case rel => exact ⟨k + 1, by omega, by go_num, by rw [HE.out]; exact hown, hb, hz, h1, h2⟩
        case measure => simp [intOf]; omega
      · have HE := Lib.hid he
        generalize l.getD k 0 = x at *
        have hq : (x != n) = true := by simpa using he
        clear he
        go_wp2_with (first
          | (at_builtin; refine wpList_append_own _ rfl _ _ 22 rfl (w.heap.size + 2) 3 i0 (.int .i64 0) 1 8 Tryd.underlying22 hi hz0 hz1 hz2 rfl (by decide) _ _ _ rfl (hown.alloc _) ⟨wr.heap.size, 0, none⟩ 1 1 [.int .i64 x] rfl rfl ?c1 ?c2 ?c3 ?c4 ?c5 ?_))
        case c1 =>
          intro j u hj
          match j, hj with
          | 0, hj => simp at hj; subst hj; simp [Addr.add]
        case c2 => intro u hu; simp at hu; subst hu; rfl
        case c3 => unfold maxLen; omega
        case c4 => omega
        case c5 => simp; omega
        intro v' w4 hown4 hgrow4 _
        have hb4 : Below w.heap.size w w4 := (hb.alloc hb.size _).grown hgrow4 (by have := hb.size; simp; omega) (fun q hq => by have := (hown.lt q hq).1; omega)
        have hz4 : w.heap.size + 2 ≤ w4.heap.size := by have := hgrow4.size; simp at this; omega
        have h14 : Blk1 w4 w.heap.size (.slice (some ⟨b, off, none⟩) l.length c) := (hgrow4.block _ (by simp; omega) (fun e => by have := (hown.lt _ e.symm).1; omega)).trans ((Below.heap_alloc _ _ _ (by omega)).trans h1)
        have h24 : Blk1 w4 (w.heap.size + 1) (.slice none 0 0) := (hgrow4.block _ (by simp; omega) (fun e => by have := (hown.lt _ e.symm).1; omega)).trans ((Below.heap_alloc _ _ _ (by omega)).trans h2)
        have hown5 : w4.ownsRow (w.heap.size + 2) 3 1 v' (wo n (l.take (k + 1))).length ((wo n (l.take (k + 1))).map (Value.int .i64)) := by
          rw [HW.out, if_neg HE.out]; simpa using hown4
        clear hown4 hgrow4 hown hb hz h1 h2 hc1 hck
        go_wp2
        go_roundw
        case rel => exact ⟨k + 1, by omega, by go_num, hown5, hb4, hz4, h14, h24⟩
        case measure => simp [intOf]; omega
    · have hlz : ¬ (k : Int) < (l.length : Int) := by omega
      have hown2 := hown
      rw [List.take_of_length_le (by omega)] at hown2
      obtain ⟨A', c', rfl, hRL⟩ := own_RL hown2
      have hbk : ∀ b off, A' = some ⟨b, off, none⟩ → b ≠ w.heap.size + 1 := fun b off e => by
        have := (hown.lt b (by rw [e]; rfl)).1; omega
      have hc2 := h2.cell
      have hf2 := h2.frozen
      clear hown
      go_wp2
      exact ret30 rfl rfl rfl (h2.set_ _) ⟨A', c', rfl, hRL.setCell hbk _, hb.setCell (by simp) _⟩
end Go.Proofs.YtabdhmfjbielaaaDoor
