/- PROVED here: what a number more does to the list of a set; the contract of the document's own With where nothing is put in. No condition but those in each theorem's own head. -/
import Derived.Test.YtabdhmfjbielaaaDoorRc
import Derived.Test.YtabdhmfjbielaaaDoorQq
namespace Go.Proofs.YtabdhmfjbielaaaDoor
open Go Go.RowKit

theorem els_split (s m : Nat) (hm : m ≤ 4096) : els s 4096 = els s m ++ ef s m := by
  unfold els ef
  have h := List.range'_append_1 (s := 0) (m := m) (n := 4096 - m)
  rw [Nat.zero_add, show m + (4096 - m) = 4096 by omega] at h
  rw [← List.map_append, ← List.filter_append, List.range_eq_range', List.range_eq_range', h]
theorem ef_ge (s m : Nat) (x : Int) (h : x ∈ ef s m) : (m : Int) ≤ x := by
  unfold ef at h
  simp only [List.mem_map, List.mem_filter, List.mem_range'_1] at h
  obtain ⟨j, ⟨hj, _⟩, rfl⟩ := h
  simp; omega
theorem els_lt (s m : Nat) (x : Int) (h : x ∈ els s m) : x < (m : Int) := by
  obtain ⟨j, rfl, hj, _⟩ := (els_mem s m x).1 h; omega
set_option maxRecDepth 100000 in
/-- where a number is to be put -/
theorem ins_at {s m k : Nat} (hm : m ≤ 4096) (hk : k ≤ (els s 4096).length) (h1 : ∀ j, j < k → (els s 4096).getD j 0 < m) (h2 : k < (els s 4096).length → (m : Int) ≤ (els s 4096).getD k 0) : (els s 4096).take k = els s m ∧ (els s 4096).drop k = ef s m := by
  have e := els_split s m hm
  have hlen : k = (els s m).length := by
    rcases Nat.lt_trichotomy k (els s m).length with h | h | h
    · exfalso
      have hl : k < (els s 4096).length := by rw [e, List.length_append]; omega
      have := h2 hl
      have hg : (els s 4096).getD k 0 = (els s m)[k] := by rw [e]; simp [h, List.getElem?_append]
      rw [hg] at this
      have := els_lt s m _ (List.getElem_mem h)
      omega
    · exact h
    · exfalso
      have hlt := h1 (els s m).length h
      have hl : (els s m).length < (els s 4096).length := by omega
      have hl2 : 0 < (ef s m).length := by rw [e, List.length_append] at hl; omega
      have hg : (els s 4096).getD (els s m).length 0 = (ef s m)[0] := by rw [e]; simp [hl2]
      rw [hg] at hlt
      have := ef_ge s m _ (List.getElem_mem hl2)
      omega
  rw [hlen, e]
  constructor
  · exact List.take_left
  · exact List.drop_left
theorem els_congr {s t m : Nat} (h : ∀ j, j < m → s.testBit j = t.testBit j) : els s m = els t m := by
  unfold els
  congr 1
  exact List.filter_congr fun j hj => h j (by simpa using hj)
theorem ef_congr {s t m : Nat} (h : ∀ j, m ≤ j → s.testBit j = t.testBit j) : ef s m = ef t m := by
  unfold ef
  congr 1
  exact List.filter_congr fun j hj => h j (by simp at hj; omega)
theorem els_add {s m : Nat} (hm : m < 4096) (hb : s.testBit m = false) : els (s ||| 2 ^ m) 4096 = els s m ++ (m : Int) :: ef s m := by
  rw [els_split _ m (by omega), ef_succ _ m hm, ef_succ s m hm, hb]
  have h0 : (s ||| 2 ^ m).testBit m = true := by rw [Nat.testBit_or, Nat.testBit_two_pow]; simp
  rw [h0]
  simp only [if_true, Bool.false_eq_true, if_false]
  have hbit : ∀ j, ¬ m = j → (s ||| 2 ^ m).testBit j = s.testBit j := fun j hj => by rw [Nat.testBit_or, Nat.testBit_two_pow]; simp [hj]
  rw [els_congr (t := s) (fun j hj => hbit j (by omega)), ef_congr (t := s) (fun j hj => hbit j (by omega))]
theorem els_same {s m : Nat} (hb : s.testBit m = true) : s ||| 2 ^ m = s := by
  apply Nat.eq_of_testBit_eq; intro j
  rw [Nat.testBit_or, Nat.testBit_two_pow]
  by_cases e : m = j
  · subst e; simp [hb]
  · simp [e]
theorem inL_els (s : Nat) (m : Nat) (hm : m < 4096) : inL (els s 4096) (m : Int) = s.testBit m := by
  unfold inL
  rw [Bool.eq_iff_iff, decide_eq_true_eq, els_mem]
  constructor
  · rintro ⟨j, e, _, hb⟩
    obtain rfl : m = j := by omega
    exact hb
  · intro hb; exact ⟨m, rfl, hm, hb⟩

theorem RL.alloc {w : World} {A : Option Addr} {c : Nat} {l : List Int} (h : RL w A c l) (o : Obj) : RL (w.alloc o) A c l := h.below (heap1 w o)
theorem RL.setCell2 {w : World} {A : Option Addr} {c : Nat} {l : List Int} (h : RL w A c l) {g : Nat} (hg : ∀ b off, A = some ⟨b, off, none⟩ → 0 < l.length → b ≠ g) (u : Value) : RL (w.setCell ⟨g, 0, none⟩ u) A c l :=
  ⟨fun h0 => by
    obtain ⟨b, off, e, hl, hc⟩ := h.1 h0
    refine ⟨b, off, e, by simpa [World.setCell] using hl, fun j hj => ?_⟩
    exact (World.cell?_setCell_other w ⟨g, 0, none⟩ ⟨b, off + j, none⟩ u (fun e2 => hg b off e h0 (by have := congrArg Addr.block e2; simpa using this.symm))).trans (hc j hj), h.2.1, h.2.2⟩
/-- nothing is put in: the number doesn't fit -/
theorem rwith_no (A : Option Addr) (c : Nat) (l : List Int) (n : Int) (w : World) (hR : RL w A c l) (hn : ¬ (0 ≤ n ∧ n < 4096)) :
    Calls Tryd.prog 14 #[.agg #[.slice A l.length c], .int .i64 n] w (RPost l w) := by
  have HR := Lib.hid hR
  clear hR
  by_cases h0 : n < 0
  · clear hn
    go_enter Tryd.func14, Tryd.ntmps14
    go_upto_region 2 with fail
    refine gen_world (fun w1 => Below w.heap.size w w1 ∧ Blk1 w1 w.heap.size (.slice A l.length c) ∧ Blk1 w1 (w.heap.size + 1) (.slice none 0 0)) ⟨below2 w _ _, heap_alloc2_old w _ _, heap_alloc2_new w _ _⟩ ?_
    rintro w1 ⟨hb, h1, h2⟩
    have c1 := h1.cell
    have c2 := h2.cell
    have f2 := h2.frozen
    have hbk : ∀ b off, A = some ⟨b, off, none⟩ → 0 < l.length → b ≠ w.heap.size + 1 := fun b off e h0 => by
      obtain ⟨b', off', e', hl, _⟩ := HR.out.1 h0
      rw [e] at e'; injection e' with e'; injection e' with e1 _; omega
    go_wp2
    exact ret30 rfl rfl rfl (h2.set_ _) ⟨A, c, rfl, RL.setCell2 (HR.out.below hb) hbk _, hb.setCell (by simp) _⟩
  · have h1' : 4096 ≤ n := by omega
    have hd : decide ((4096 : Int) ≤ n) = true := by simpa using h1'
    clear hn
    go_enter Tryd.func14, Tryd.ntmps14
    go_upto_region 2 with fail
    refine gen_world (fun w1 => Below w.heap.size w w1 ∧ Blk1 w1 w.heap.size (.slice A l.length c) ∧ Blk1 w1 (w.heap.size + 1) (.slice none 0 0)) ⟨below2 w _ _, heap_alloc2_old w _ _, heap_alloc2_new w _ _⟩ ?_
    rintro w1 ⟨hb, h1, h2⟩
    have c1 := h1.cell
    have c2 := h2.cell
    have f2 := h2.frozen
    have hbk : ∀ b off, A = some ⟨b, off, none⟩ → 0 < l.length → b ≠ w.heap.size + 1 := fun b off e h0 => by
      obtain ⟨b', off', e', hl, _⟩ := HR.out.1 h0
      rw [e] at e'; injection e' with e'; injection e' with e1 _; omega
    go_wp2
    exact ret30 rfl rfl rfl (h2.set_ _) ⟨A, c, rfl, RL.setCell2 (HR.out.below hb) hbk _, hb.setCell (by simp) _⟩
end Go.Proofs.YtabdhmfjbielaaaDoor
