/- PROVED here: the contract of the document's Sub, where it answers nothing. No condition but those in each theorem's own head. -/
import Derived.Test.YtcnmkmdedeiffaaTe
import Derived.Test.YtcnmkmdedeiffaaZ
namespace Go.Proofs.Ytcnmkmdedeiffaa
open Go Go.RowKit

set_option maxRecDepth 100000 in
set_option maxHeartbeats 1500000 in
theorem rsub_no (A : Option Addr) (c n : Nat) (l : List Nd) (r pl : Int) (w : World) (hN : Nds w A l) (hn : n = l.length) (hk : ∀ x ∈ l, x.ks.length ≤ 4000) (h : ¬ Snd l r ∨ pl < 0 ∨ (n : Int) ≤ pl) : Calls Try.prog 25 #[.agg #[.slice A n c, .int .i64 r], .int .i64 pl] w (RPost [] 0 w) := by
  have e0 : ∀ (w' : World) (o : Obj), (w'.alloc o).heap.size = w'.heap.size + 1 := fun w' o => World.size_alloc w' o
  obtain ⟨W, hW⟩ : ∃ W, (w.alloc (.cells #[.slice A n c, .int .i64 r] 30)).alloc (.cells #[.slice none 0 0, .int .i64 0] 30) = W := ⟨_, rfl⟩
  have hb : Below w.heap.size w W := by rw [← hW]; exact (heap1 _ _).alloc (by rw [e0]; omega) _
  have hsz : W.heap.size = w.heap.size + 1 + 1 := by rw [← hW, e0, e0]
  have hB1 : Bx W w.heap.size 30 [.slice A n c, .int .i64 r] := by rw [← hW]; exact (Bx.new w 30 _).alloc _
  have hB2 : Bx W (w.heap.size + 1) 30 [.slice none 0 0, .int .i64 0] := by
    rw [← hW]
    have := Bx.new (w.alloc (.cells #[.slice A n c, .int .i64 r] 30)) 30 [.slice none 0 0, .int .i64 0]
    rw [e0] at this; exact this
  have HS := Lib.hid (rsound_any A c n l r W (hN.below hb) hn hk)
  have hor : sndB l r = false ∨ pl < 0 ∨ (n : Int) ≤ pl := h.imp sndB_false id
  clear hN hn hk h
  generalize sndB l r = sb at *
  have HOR := Lib.hid hor
  clear hor
  have hct0 := hB1.cell 0
  have hct1 := hB1.cell 1
  simp only [List.getElem?_cons_zero, List.getElem?_cons_succ] at hct0 hct1
  go_enter Try.func25, Try.ntmps25
  go_wp2_with (go_at_call 16; refine HS.out.mono ?_)
  clear HS
  rintro e w1 ⟨rfl, hb1⟩
  have hE1 := hB1.below hb1 (by omega)
  have hE2 := hB2.below hb1 (by omega)
  clear hct0 hct1
  have hct0 := hE1.cell 0
  have hcr0 := hE2.cell 0
  have hcr1 := hE2.cell 1
  have hfr0 := hE2.frozen 0
  have hfr1 := hE2.frozen 1
  simp only [List.getElem?_cons_zero, List.getElem?_cons_succ] at hcr0 hcr1 hct0
  have hb3 := bt hb hb1
  have hb4 := (hb3.setCell (p := ⟨w.heap.size + 1, 0, none⟩) (by show _ ≤ w.heap.size + 1; omega) (.slice none 0 0)).setCell (p := ⟨w.heap.size + 1, 1, none⟩) (by show _ ≤ w.heap.size + 1; omega) (.int .i64 0)
  have hE3 := (hE2.set_ 0 (.slice none 0 0)).set_ 1 (.int .i64 0)
  have HB4 := Lib.hid hb4
  have HE3 := Lib.hid hE3
  clear hb hb3 hB1 hB2 hW hb1 hE2 hb4 hE3 hE1
  have fin : ∀ W3 : World, Bx W3 (w.heap.size + 1) 30 [.slice none 0 0, .int .i64 0] → Below w.heap.size w W3 → RPost [] 0 w (.returned (.agg #[.slice none 0 0, .int .i64 0])) W3 := fun W3 _ hb => ⟨none, 0, rfl, fun h => absurd h (Nat.lt_irrefl 0), Nat.le_refl _, hb, fun b off e => by cases e⟩
  cases sb with
  | false =>
    go_wp2
    have hr0 := HE3.out.cell 0
    have hr1 := HE3.out.cell 1
    have hF := fin _ HE3.out HB4.out
    generalize (w1.setCell ⟨w.heap.size + 1, 0, none⟩ (.slice none 0 0)).setCell ⟨w.heap.size + 1, 1, none⟩ (.int .i64 0) = W3 at *
    simp only [List.set_cons_zero, List.set_cons_succ, List.getElem?_cons_zero, List.getElem?_cons_succ] at hr0 hr1
    exact bodyPost_ret (v := .agg #[.slice none 0 0, .int .i64 0]) (by simp [results, Try.f25, go_sem, hr0, hr1]) rfl hF
  | true =>
    by_cases h1 : pl < 0
    · have hd : decide (pl < 0) = true := decide_eq_true h1
      go_wp2
      have hr0 := HE3.out.cell 0
      have hr1 := HE3.out.cell 1
      have hF := fin _ HE3.out HB4.out
      generalize (w1.setCell ⟨w.heap.size + 1, 0, none⟩ (.slice none 0 0)).setCell ⟨w.heap.size + 1, 1, none⟩ (.int .i64 0) = W3 at *
      simp only [List.set_cons_zero, List.set_cons_succ, List.getElem?_cons_zero, List.getElem?_cons_succ] at hr0 hr1
      exact bodyPost_ret (v := .agg #[.slice none 0 0, .int .i64 0]) (by simp [results, Try.f25, go_sem, hr0, hr1]) rfl hF
    · have hd : decide (pl < 0) = false := decide_eq_false h1
      have hd2 : (n : Int) ≤ pl := by rcases HOR.out with h | h | h <;> first | cases h | omega
      go_wp2
      have hr0 := HE3.out.cell 0
      have hr1 := HE3.out.cell 1
      have hF := fin _ HE3.out HB4.out
      generalize (w1.setCell ⟨w.heap.size + 1, 0, none⟩ (.slice none 0 0)).setCell ⟨w.heap.size + 1, 1, none⟩ (.int .i64 0) = W3 at *
      simp only [List.set_cons_zero, List.set_cons_succ, List.getElem?_cons_zero, List.getElem?_cons_succ] at hr0 hr1
      exact bodyPost_ret (v := .agg #[.slice none 0 0, .int .i64 0]) (by simp [results, Try.f25, go_sem, hr0, hr1]) rfl hF
end Go.Proofs.Ytcnmkmdedeiffaa
