/- PROVED here: the contract of Bare. No condition but those in each theorem's own head. -/
import Derived.Test.YtcnmkmdedeiffaaS
namespace Go.Proofs.Ytcnmkmdedeiffaa
open Go Go.RowKit

/-- a node without its place -/
def brN (x : Nd) : Nd := ⟨x.kd, x.n, 0, x.tx, x.ks⟩
/-- nodes whose kids are ints of the machine -/
def Wok (l : List Nd) : Prop := ∀ x ∈ l, ∀ k ∈ x.ks, wrap64 k = k
theorem mv0 {l : List Nd} (h : Wok l) : l.map (mvN 0) = l := by
  conv => rhs; rw [← List.map_id l]
  apply List.map_congr_left
  intro x hx
  obtain ⟨a, b, c, d, ks⟩ := x
  show Nd.mk a b c d (ks.map fun k => wrap64 (k + 0)) = _
  congr 1
  conv => rhs; rw [← List.map_id ks]
  apply List.map_congr_left
  intro k hk
  rw [Int.add_zero]
  exact h _ hx k hk
def BrA (a : AN) : AN := ⟨brN a.nd, a.b⟩
/-- the first nodes have lost their places -/
def bk (i : Nat) (ls : List AN) : List AN := (ls.take i).map BrA ++ ls.drop i
theorem bk_step {i : Nat} {ls : List AN} (h : i < ls.length) : (fl (bk i ls)).set (i * 5 + 2) (.int .i64 0) = fl (bk (i + 1) ls) := by
  have e1 : bk i ls = (ls.take i).map BrA ++ (ls[i] :: ls.drop (i + 1)) := by unfold bk; rw [List.drop_eq_getElem_cons h]
  have e2 : bk (i + 1) ls = (ls.take i).map BrA ++ (BrA ls[i] :: ls.drop (i + 1)) := by
    unfold bk; rw [List.take_succ_eq_append_getElem h, List.map_append, List.append_assoc]; rfl
  have hl : (fl ((ls.take i).map BrA)).length = i * 5 := by rw [fl_len, List.length_map, List.length_take]; omega
  rw [e1, e2, fl_app, fl_app, List.set_append, if_neg (by omega), hl, show i * 5 + 2 - i * 5 = 2 by omega]
  rfl
theorem bk_get {i : Nat} {ls : List AN} (h : i < ls.length) : ∃ u, (fl (bk i ls))[i * 5 + 2]? = some u := by
  have hl : (fl (bk i ls)).length = ls.length * 5 := by rw [fl_len]; unfold bk; rw [List.length_append, List.length_map, List.length_take, List.length_drop]; omega
  exact ⟨_, List.getElem?_eq_getElem (by rw [hl]; omega)⟩
theorem bk_all (ls : List AN) : bk ls.length ls = ls.map BrA := by unfold bk; rw [List.take_length, List.drop_length, List.append_nil]
theorem own_bx {base g n : Nat} {ls : List AN} {w : World} (h : w.ownsRow base 24 5 (.slice (some ⟨g, 0, none⟩) n n) n (fl ls)) : Bx w g 24 (fl ls) ∧ ls.length = n := by
  rcases h.2 with ⟨e, _⟩ | ⟨g', cap, cur, e, _, h3, _, _, h5, ht⟩
  · cases e
  · cases e
    have hl := h.1
    rw [fl_len] at hl
    refine ⟨?_, by omega⟩
    unfold Bx
    rw [h3, ← ht, List.take_of_length_le (by simp; omega)]
theorem bx_own {base g n : Nat} {ls : List AN} {w : World} (h : Bx w g 24 (fl ls)) (hl : ls.length = n) (hn : n ≤ 10000000) (hb : base ≤ g) : w.ownsRow base 24 5 (.slice (some ⟨g, 0, none⟩) n n) n (fl ls) :=
  ⟨by rw [fl_len, hl], .inr ⟨g, n, _, rfl, hb, h, Nat.le_refl _, by unfold maxLen; omega, by rw [List.size_toArray, fl_len, hl], by rw [List.take_of_length_le (by rw [List.toList_toArray, fl_len, hl]; omega)]⟩⟩
set_option maxRecDepth 100000 in
set_option maxHeartbeats 1500000 in
theorem bare_any (A : Option Addr) (c n : Nat) (l : List Nd) (r : Int) (w : World) (hN : Nds w A l) (hn : n = l.length) (hl : n ≤ 10000000) (hk : ∀ x ∈ l, x.ks.length ≤ 4000) (hw : Wok l) : Calls Try.prog 13 #[.agg #[.slice A n c, .int .i64 r]] w (TPost (l.map brN) r w) := by
  have e0 : ∀ (w' : World) (o : Obj), (w'.alloc o).heap.size = w'.heap.size + 1 := fun w' o => World.size_alloc w' o
  obtain ⟨W, hW⟩ : ∃ W, (w.alloc (.cells #[.slice A n c, .int .i64 r] 30)).alloc (.cells #[.slice none 0 0, .int .i64 0] 30) = W := ⟨_, rfl⟩
  have hb : Below w.heap.size w W := by rw [← hW]; exact (heap1 _ _).alloc (by rw [e0]; omega) _
  have hsz : W.heap.size = w.heap.size + 1 + 1 := by rw [← hW, e0, e0]
  have hB1 : Bx W w.heap.size 30 [.slice A n c, .int .i64 r] := by rw [← hW]; exact (Bx.new w 30 _).alloc _
  have hB2 : Bx W (w.heap.size + 1) 30 [.slice none 0 0, .int .i64 0] := by
    rw [← hW]
    have := Bx.new (w.alloc (.cells #[.slice A n c, .int .i64 r] 30)) 30 [.slice none 0 0, .int .i64 0]
    rw [e0] at this; exact this
  have HMV := Lib.hid (moved_any A c n l 0 W (hN.below hb) hn hl hk)
  have HW := Lib.hid hw
  have HL := Lib.hid hn
  have HSZ := Lib.hid hsz
  clear hN hn hk hw hsz
  have hct0 := hB1.cell 0
  have hct1 := hB1.cell 1
  simp only [List.getElem?_cons_zero, List.getElem?_cons_succ] at hct0 hct1
  go_enter Try.func13, Try.ntmps13
  go_wp2_with (go_at_call 26; refine HMV.out.mono ?_)
  rintro e w1 ⟨ls, rfl, hown, hmm, hAl, hb1⟩
  clear HMV hct0 hct1 hW
  rw [mv0 HW.out] at hmm
  obtain ⟨hBX, hll⟩ := own_bx hown
  have hC1 := hB1.below hb1 hB1.lt
  have hC2 := hB2.below hb1 hB2.lt
  have hbb := bt hb hb1
  obtain ⟨g, hg⟩ : ∃ g, g = W.heap.size := ⟨_, rfl⟩
  have hgz : w.heap.size + 1 < g := by have := HSZ.out; omega
  rw [← hg] at hBX hAl ⊢
  clear hown hg hB1 hB2 hb hb1
  have HLL := Lib.hid hll
  clear hll
  go_wp2
  go_loopw [10] (fun i wr => ∃ j : Nat, j ≤ n ∧ i = .int .i64 (j : Int) ∧ Bx wr g 24 (fl (bk j ls)) ∧ Al g wr ls ∧ Bx wr w.heap.size 30 [.slice A n c, .int .i64 r] ∧ Bx wr (w.heap.size + 1) 30 [.slice none 0 0, .int .i64 0] ∧ Below w.heap.size w wr) (fun i _ => n - (intOf i).toNat)
  case atStart => exact ⟨0, Nat.zero_le _, rfl, by rw [show bk 0 ls = ls from rfl]; exact hBX, hAl, hC1, hC2, hbb⟩
  case round =>
    clear hBX hAl hC1 hC2 hbb
    obtain ⟨j, hj, rfl, hBX, hAl, hC1, hC2, hbb⟩ := hrel
    by_cases hlt : j < n
    · have hlz : (j : Int) < (n : Int) := by omega
      have hjl : j < ls.length := by rw [HLL.out]; exact hlt
      obtain ⟨u, hu⟩ := bk_get hjl
      have hcu := hBX.cell (j * 5 + 2)
      rw [hu] at hcu
      have hfu := hBX.frozen (j * 5 + 2)
      clear hu
      go_wp2
      go_roundw
      case rel =>
        refine ⟨j + 1, by omega, by go_num, ?_, hAl.keep fun b hb n' m' hI => heap_setCell_other wr _ b _ (fun e => ?_), hC1.far (by show w.heap.size ≠ g; omega) _, hC2.far (by show w.heap.size + 1 ≠ g; omega) _, hbb.setCell (p := ⟨g, j * 5 + 2, none⟩) (by show _ ≤ g; omega) _⟩
        · rw [← bk_step hjl]; exact hBX.set_ (j * 5 + 2) _
        · have e' : b = g := e
          subst e'
          have h1 : wr.heap[b]? = _ := hBX
          rw [show wr.heap[b]? = _ from hI] at h1
          simp at h1
      case measure => simp [intOf]; omega
    · obtain rfl : j = n := by omega
      have hlz : ¬ (j : Int) < (j : Int) := by omega
      rw [← HLL.out, bk_all] at hBX
      have d1 := hC1.cell 1
      have hcr0 := hC2.cell 0
      have hcr1 := hC2.cell 1
      have hfr0 := hC2.frozen 0
      have hfr1 := hC2.frozen 1
      simp only [List.getElem?_cons_zero, List.getElem?_cons_succ] at d1 hcr0 hcr1
      have HBX := Lib.hid hBX
      have HAL := Lib.hid hAl
      have HC2 := Lib.hid hC2
      have HBB := Lib.hid hbb
      clear hBX hAl hC1 hC2 hbb
      go_wp2
      have hE3 := (HC2.out.set_ 0 (.slice (some ⟨g, 0, none⟩) j j)).set_ 1 (.int .i64 r)
      have hB3 := (HBX.out.far (p := ⟨w.heap.size + 1, 0, none⟩) (by show g ≠ w.heap.size + 1; omega) (.slice (some ⟨g, 0, none⟩) j j)).far (p := ⟨w.heap.size + 1, 1, none⟩) (by show g ≠ w.heap.size + 1; omega) (.int .i64 r)
      have ha3 := al_set (i := 1) (u := .int .i64 r) (al_set (i := 0) (u := .slice (some ⟨g, 0, none⟩) j j) HAL.out hgz) hgz
      have hb3 := (HBB.out.setCell (p := ⟨w.heap.size + 1, 0, none⟩) (by show _ ≤ w.heap.size + 1; omega) (.slice (some ⟨g, 0, none⟩) j j)).setCell (p := ⟨w.heap.size + 1, 1, none⟩) (by show _ ≤ w.heap.size + 1; omega) (.int .i64 r)
      generalize (wr.setCell ⟨w.heap.size + 1, 0, none⟩ (.slice (some ⟨g, 0, none⟩) j j)).setCell ⟨w.heap.size + 1, 1, none⟩ (.int .i64 r) = W3 at *
      have hr0 := hE3.cell 0
      have hr1 := hE3.cell 1
      simp only [List.set_cons_zero, List.set_cons_succ, List.getElem?_cons_zero, List.getElem?_cons_succ] at hr0 hr1
      refine bodyPost_ret (v := .agg #[.slice (some ⟨g, 0, none⟩) j j, .int .i64 r]) (by simp [results, Try.f13, go_sem, hr0, hr1]) rfl (tpost_own (base := g) (ls := ls.map BrA) (bx_own hB3 (by rw [List.length_map]; exact HLL.out) hl (Nat.le_refl _)) ?_ ?_ hb3 rfl)
      · intro x hx
        obtain ⟨y, hy, rfl⟩ := List.mem_map.1 hx
        exact ha3 y hy
      · rw [List.map_map, ← hmm, List.map_map]; rfl
end Go.Proofs.Ytcnmkmdedeiffaa
