/- PROVED here: contracts of expect, name and end; contracts of begin and finish. No condition but those in each theorem's own head. -/
import Derived.Test.YtdoeinjplgeadaaGreatDoorPd
import Derived.WalkLawsBesides
namespace Go.Proofs.YtdoeinjplgeadaaGreatDoor
section
open Go Go.RowKit
open Tr (Bx heap1 bt gen_world ret_int ret_bool cell_same)

set_option maxRecDepth 100000 in
set_option maxHeartbeats 1500000 in
theorem expect_no {w : World} {g c : Nat} {A : Option Addr} {ts : List Tok} {V : Value} {s : St} (x : List UInt8) (h : Px w g A c ts V s) (hs : sees ts x s = false) : Calls Tryz.prog 71 #[.pointer (some ⟨g, 0, none⟩), .string (bs x)] w (NPost (tkn ts s).p 2 w) := by
  obtain ⟨W, hW⟩ : ∃ W, w.alloc (.cells #[.int .i64 0, .int .i64 0, .int .i64 0, .string ⟨#[]⟩] 36) = W := ⟨_, rfl⟩
  have hb : Below w.heap.size w W := by rw [← hW]; exact heap1 _ _
  have hX := h.below hb
  have HC := Lib.hid (sees_any x hX)
  rw [hs] at HC
  have HR := Lib.hid (fun w' (k : Below W.heap.size W w') => refuse_any 2 (hX.below k))
  generalize (tkn ts s).p = pp at *
  clear h hs hX
  go_enter Tryz.func71, Tryz.ntmps71
  go_wp2_with (first | (go_at_call 41; refine HC.out.mono ?_; rintro e w1 ⟨rfl, hb1⟩) | (go_at_call 79; refine (HR.out _ hb1).mono ?_; rintro e w2 ⟨rfl, hb2⟩))
  exact ⟨rfl, rfl, bt (bt hb hb1) hb2⟩
set_option maxRecDepth 100000 in
set_option maxHeartbeats 1500000 in
theorem expect_yes {w : World} {g c : Nat} {A : Option Addr} {ts : List Tok} {V : Value} {s : St} (x : List UInt8) (h : Px w g A c ts V s) (hs : sees ts x s = true) (hn : s.nx + 1 < ts.length) : Calls Tryz.prog 71 #[.pointer (some ⟨g, 0, none⟩), .string (bs x)] w (PPost g A c ts V (tokV (tkn ts s)) (takeS s) w) := by
  obtain ⟨W, hW⟩ : ∃ W, w.alloc (.cells #[.int .i64 0, .int .i64 0, .int .i64 0, .string ⟨#[]⟩] 36) = W := ⟨_, rfl⟩
  have hb : Below w.heap.size w W := by rw [← hW]; exact heap1 _ _
  have hB : Bx W w.heap.size 36 [.int .i64 0, .int .i64 0, .int .i64 0, .string ⟨#[]⟩] := by rw [← hW]; exact Bx.new w 36 _
  have hX := h.below hb
  have hne2 : w.heap.size ≠ g := by have := h.box.lt; omega
  have HC := Lib.hid (sees_any x hX)
  rw [hs] at HC
  have HT := Lib.hid (fun w' (k : Below W.heap.size W w') => take_any (hX.below k) hn)
  have H0 := Lib.hid h
  generalize tkn ts s = t at *
  clear h hs hX
  unfold tokV at *
  go_enter Tryz.func71, Tryz.ntmps71
  go_wp2_with (go_at_call 41; refine HC.out.mono ?_; rintro e w1 ⟨rfl, hb1⟩)
  go_wp2_with (go_at_call 69; refine (HT.out _ hb1).mono ?_)
  rintro e W3 ⟨rfl, hX3, hF1⟩
  have hB3 := Bx.fr (hB.below hb1 hB.lt) hF1 hne2
  have hF3 : Fr (· = g) w W3 := (Fr.of (bt hb hb1)).trans hF1
  clear hB hF1 hb hb1 hW HC HT
  have b0 := (hB3.cell 0).trans rfl
  have b1 := (hB3.cell 1).trans rfl
  have b2 := (hB3.cell 2).trans rfl
  have b3 := (hB3.cell 3).trans rfl
  have f0 := hB3.frozen 0
  have f1 := hB3.frozen 1
  have f2 := hB3.frozen 2
  have f3 := hB3.frozen 3
  have hE := (((hB3.set_ 0 (.int .i64 (t.k : Int))).set_ 1 (.int .i64 t.n)).set_ 2 (.int .i64 (t.p : Int))).set_ 3 (.string (bs t.s))
  have hXE := (((hX3.box.far (p := ⟨w.heap.size, 0, none⟩) hne2.symm (.int .i64 (t.k : Int))).far (p := ⟨w.heap.size, 1, none⟩) hne2.symm (.int .i64 t.n)).far (p := ⟨w.heap.size, 2, none⟩) hne2.symm (.int .i64 (t.p : Int))).far (p := ⟨w.heap.size, 3, none⟩) hne2.symm (.string (bs t.s))
  have hFE := (((hF3.new (k := w.heap.size) (i := 0) (Nat.le_refl _) (.int .i64 (t.k : Int))).new (k := w.heap.size) (i := 1) (Nat.le_refl _) (.int .i64 t.n)).new (k := w.heap.size) (i := 2) (Nat.le_refl _) (.int .i64 (t.p : Int))).new (k := w.heap.size) (i := 3) (Nat.le_refl _) (.string (bs t.s))
  have HE := Lib.hid (And.intro hE (And.intro hXE hFE))
  have hb3 := And.intro hX3.nx (And.intro hX3.op hX3.mo)
  clear hE hXE hFE hB3 hX3 hF3
  go_wp2
  obtain ⟨hE, hXE, hFE⟩ := HE.out
  have z0 := hE.cell 0
  have z1 := hE.cell 1
  have z2 := hE.cell 2
  have z3 := hE.cell 3
  simp only [List.set_cons_zero, List.set_cons_succ, List.getElem?_cons_zero, List.getElem?_cons_succ] at z0 z1 z2 z3
  generalize (((W3.setCell ⟨w.heap.size, 0, none⟩ (.int .i64 (t.k : Int))).setCell ⟨w.heap.size, 1, none⟩ (.int .i64 t.n)).setCell ⟨w.heap.size, 2, none⟩ (.int .i64 (t.p : Int))).setCell ⟨w.heap.size, 3, none⟩ (.string (bs t.s)) = W4 at *
  exact bodyPost_ret (v := .agg #[.int .i64 (t.k : Int), .int .i64 t.n, .int .i64 (t.p : Int), .string (bs t.s)]) (by simp [results, Tryz.f71, go_sem, z0, z1, z2, z3]) rfl ⟨rfl, H0.out.to hFE hXE hb3.1 hb3.2.1 hb3.2.2, hFE⟩
set_option maxRecDepth 100000 in
set_option maxHeartbeats 1500000 in
theorem name_no {w : World} {g c : Nat} {A : Option Addr} {ts : List Tok} {V : Value} {s : St} (h : Px w g A c ts V s) (hs : (tkn ts s).k ≠ 1) : Calls Tryz.prog 73 #[.pointer (some ⟨g, 0, none⟩)] w (NPost (tkn ts s).p 2 w) := by
  obtain ⟨W, hW⟩ : ∃ W, w.alloc (.cells #[.int .i64 0, .int .i64 0, .int .i64 0, .string ⟨#[]⟩] 36) = W := ⟨_, rfl⟩
  have hb : Below w.heap.size w W := by rw [← hW]; exact heap1 _ _
  have hX := h.below hb
  have HC := Lib.hid (token_any hX)
  have HR := Lib.hid (fun w' (k : Below W.heap.size W w') => refuse_any 2 (hX.below k))
  have hf := field36_0 (tkn ts s)
  generalize hv : tokV (tkn ts s) = v at *
  have q1 : (((tkn ts s).k : Int) != 1) = true := by rw [bne_iff_ne]; omega
  generalize ((tkn ts s).k : Int) = kk at *
  generalize (tkn ts s).p = pp at *
  clear h hs hX hv
  go_enter Tryz.func73, Tryz.ntmps73
  go_wp2_with (first | (go_at_call 72; refine HC.out.mono ?_; rintro e w1 ⟨rfl, hb1⟩) | (go_at_call 79; refine (HR.out _ hb1).mono ?_; rintro e w2 ⟨rfl, hb2⟩))
  exact ⟨rfl, rfl, bt (bt hb hb1) hb2⟩
set_option maxRecDepth 100000 in
set_option maxHeartbeats 1500000 in
theorem name_yes {w : World} {g c : Nat} {A : Option Addr} {ts : List Tok} {V : Value} {s : St} (h : Px w g A c ts V s) (hs : (tkn ts s).k = 1) (hn : s.nx + 1 < ts.length) : Calls Tryz.prog 73 #[.pointer (some ⟨g, 0, none⟩)] w (PPost g A c ts V (tokV (tkn ts s)) (takeS s) w) := by
  obtain ⟨W, hW⟩ : ∃ W, w.alloc (.cells #[.int .i64 0, .int .i64 0, .int .i64 0, .string ⟨#[]⟩] 36) = W := ⟨_, rfl⟩
  have hb : Below w.heap.size w W := by rw [← hW]; exact heap1 _ _
  have hB : Bx W w.heap.size 36 [.int .i64 0, .int .i64 0, .int .i64 0, .string ⟨#[]⟩] := by rw [← hW]; exact Bx.new w 36 _
  have hX := h.below hb
  have hne2 : w.heap.size ≠ g := by have := h.box.lt; omega
  have HC := Lib.hid (token_any hX)
  have HT := Lib.hid (fun w' (k : Below W.heap.size W w') => take_any (hX.below k) hn)
  have H0 := Lib.hid h
  have hf := field36_0 (tkn ts s)
  rw [hs] at hf
  generalize tkn ts s = t at *
  clear h hs hX
  unfold tokV at HT ⊢
  generalize hv : tokV t = v at hf HC
  clear hv
  go_enter Tryz.func73, Tryz.ntmps73
  go_wp2_with (go_at_call 72; refine HC.out.mono ?_; rintro e w1 ⟨rfl, hb1⟩)
  go_wp2_with (go_at_call 69; refine (HT.out _ hb1).mono ?_)
  rintro e W3 ⟨rfl, hX3, hF1⟩
  have hB3 := Bx.fr (hB.below hb1 hB.lt) hF1 hne2
  have hF3 : Fr (· = g) w W3 := (Fr.of (bt hb hb1)).trans hF1
  clear hB hF1 hb hb1 hW HC HT hf
  have b0 := (hB3.cell 0).trans rfl
  have b1 := (hB3.cell 1).trans rfl
  have b2 := (hB3.cell 2).trans rfl
  have b3 := (hB3.cell 3).trans rfl
  have f0 := hB3.frozen 0
  have f1 := hB3.frozen 1
  have f2 := hB3.frozen 2
  have f3 := hB3.frozen 3
  have hE := (((hB3.set_ 0 (.int .i64 (t.k : Int))).set_ 1 (.int .i64 t.n)).set_ 2 (.int .i64 (t.p : Int))).set_ 3 (.string (bs t.s))
  have hXE := (((hX3.box.far (p := ⟨w.heap.size, 0, none⟩) hne2.symm (.int .i64 (t.k : Int))).far (p := ⟨w.heap.size, 1, none⟩) hne2.symm (.int .i64 t.n)).far (p := ⟨w.heap.size, 2, none⟩) hne2.symm (.int .i64 (t.p : Int))).far (p := ⟨w.heap.size, 3, none⟩) hne2.symm (.string (bs t.s))
  have hFE := (((hF3.new (k := w.heap.size) (i := 0) (Nat.le_refl _) (.int .i64 (t.k : Int))).new (k := w.heap.size) (i := 1) (Nat.le_refl _) (.int .i64 t.n)).new (k := w.heap.size) (i := 2) (Nat.le_refl _) (.int .i64 (t.p : Int))).new (k := w.heap.size) (i := 3) (Nat.le_refl _) (.string (bs t.s))
  have HE := Lib.hid (And.intro hE (And.intro hXE hFE))
  have hb3 := And.intro hX3.nx (And.intro hX3.op hX3.mo)
  clear hE hXE hFE hB3 hX3 hF3
  go_wp2
  obtain ⟨hE, hXE, hFE⟩ := HE.out
  have z0 := hE.cell 0
  have z1 := hE.cell 1
  have z2 := hE.cell 2
  have z3 := hE.cell 3
  simp only [List.set_cons_zero, List.set_cons_succ, List.getElem?_cons_zero, List.getElem?_cons_succ] at z0 z1 z2 z3
  generalize (((W3.setCell ⟨w.heap.size, 0, none⟩ (.int .i64 (t.k : Int))).setCell ⟨w.heap.size, 1, none⟩ (.int .i64 t.n)).setCell ⟨w.heap.size, 2, none⟩ (.int .i64 (t.p : Int))).setCell ⟨w.heap.size, 3, none⟩ (.string (bs t.s)) = W4 at *
  exact bodyPost_ret (v := .agg #[.int .i64 (t.k : Int), .int .i64 t.n, .int .i64 (t.p : Int), .string (bs t.s)]) (by simp [results, Tryz.f73, go_sem, z0, z1, z2, z3]) rfl ⟨rfl, H0.out.to hFE hXE hb3.1 hb3.2.1 hb3.2.2, hFE⟩
set_option maxRecDepth 100000 in
set_option maxHeartbeats 1500000 in
theorem end_no {w : World} {g c : Nat} {A : Option Addr} {ts : List Tok} {V : Value} {s : St} (h : Px w g A c ts V s) (hs : (tkn ts s).k ≠ 5) : Calls Tryz.prog 43 #[.pointer (some ⟨g, 0, none⟩)] w (NPost (tkn ts s).p 2 w) := by
  have HC := Lib.hid (token_any h)
  have HR := Lib.hid (fun w' (k : Below w.heap.size w w') => refuse_any 2 (h.below k))
  have hf := field36_0 (tkn ts s)
  generalize hv : tokV (tkn ts s) = v at *
  have q1 : (((tkn ts s).k : Int) != 5) = true := by rw [bne_iff_ne]; omega
  generalize ((tkn ts s).k : Int) = kk at *
  generalize (tkn ts s).p = pp at *
  clear h hs hv
  go_enter Tryz.func43, Tryz.ntmps43
  go_wp2_with (first | (go_at_call 72; refine HC.out.mono ?_; rintro e w1 ⟨rfl, hb1⟩) | (go_at_call 79; refine (HR.out _ hb1).mono ?_; rintro e w2 ⟨rfl, hb2⟩))
  exact ⟨rfl, rfl, bt hb1 hb2⟩
set_option maxRecDepth 100000 in
set_option maxHeartbeats 1500000 in
theorem end_yes {w : World} {g c : Nat} {A : Option Addr} {ts : List Tok} {V : Value} {s : St} (h : Px w g A c ts V s) (hs : (tkn ts s).k = 5) : Calls Tryz.prog 43 #[.pointer (some ⟨g, 0, none⟩)] w (VPost (.tuple #[]) w) := by
  have HC := Lib.hid (token_any h)
  have hf := field36_0 (tkn ts s)
  rw [hs] at hf
  generalize tokV (tkn ts s) = v at *
  clear h hs
  go_enter Tryz.func43, Tryz.ntmps43
  go_wp2_with (go_at_call 72; refine HC.out.mono ?_; rintro e w1 ⟨rfl, hb1⟩)
  go_end0
  exact ⟨rfl, hb1⟩
end
section
open Go Go.RowKit
open Tr (Bx heap1 bt gen_world ret_int ret_bool cell_same)

set_option maxRecDepth 100000 in
set_option maxHeartbeats 1500000 in
theorem begin_deep {w : World} {g c : Nat} {A : Option Addr} {ts : List Tok} {V : Value} {s : St} (x : List UInt8) (h : Px w g A c ts V s) (hs : sees ts x s = true) (ho : s.op = 40) : Calls Tryz.prog 77 #[.pointer (some ⟨g, 0, none⟩), .string (bs x)] w (NPost (tkn ts s).p 6 w) := by
  obtain ⟨W, hW⟩ : ∃ W, w.alloc (.cells #[.int .i64 0, .int .i64 0, .int .i64 0, .string ⟨#[]⟩] 36) = W := ⟨_, rfl⟩
  have hb : Below w.heap.size w W := by rw [← hW]; exact heap1 _ _
  have hX := h.below hb
  have HC := Lib.hid (sees_any x hX)
  rw [hs] at HC
  have HR := Lib.hid (fun w' (k : Below W.heap.size W w') => refuse_any 6 (hX.below k))
  have HX := Lib.hid hX
  generalize (tkn ts s).p = pp at *
  clear h hs hX
  go_enter Tryz.func77, Tryz.ntmps77
  go_wp2_with (go_at_call 41; refine HC.out.mono ?_)
  rintro e w1 ⟨rfl, hb1⟩
  have d3 := ((HX.out.below hb1).box.cell 3).trans rfl
  rw [ho] at d3
  clear HC HX ho
  go_wp2_with (go_at_call 79; refine (HR.out _ hb1).mono ?_; rintro e w2 ⟨rfl, hb2⟩)
  exact ⟨rfl, rfl, bt (bt hb hb1) hb2⟩
set_option maxRecDepth 100000 in
set_option maxHeartbeats 1500000 in
theorem begin_no {w : World} {g c : Nat} {A : Option Addr} {ts : List Tok} {V : Value} {s : St} (x : List UInt8) (h : Px w g A c ts V s) (hs : sees ts x s = false) : Calls Tryz.prog 77 #[.pointer (some ⟨g, 0, none⟩), .string (bs x)] w (NPost (tkn ts s).p 2 w) := by
  obtain ⟨W, hW⟩ : ∃ W, w.alloc (.cells #[.int .i64 0, .int .i64 0, .int .i64 0, .string ⟨#[]⟩] 36) = W := ⟨_, rfl⟩
  have hb : Below w.heap.size w W := by rw [← hW]; exact heap1 _ _
  have hX := h.below hb
  have HC := Lib.hid (sees_any x hX)
  rw [hs] at HC
  have HR := Lib.hid (fun w' (k : Below W.heap.size W w') => expect_no x (hX.below k) hs)
  generalize (tkn ts s).p = pp at *
  clear h hs hX
  go_enter Tryz.func77, Tryz.ntmps77
  go_wp2_with (first | (go_at_call 41; refine HC.out.mono ?_; rintro e w1 ⟨rfl, hb1⟩) | (go_at_call 71; refine (HR.out _ hb1).mono ?_; rintro e w2 ⟨rfl, hb2⟩))
  exact ⟨rfl, rfl, bt (bt hb hb1) hb2⟩
set_option maxRecDepth 100000 in
set_option maxHeartbeats 1500000 in
theorem finish_no {w : World} {g c : Nat} {A : Option Addr} {ts : List Tok} {V : Value} {s : St} (x : List UInt8) (h : Px w g A c ts V s) (hs : sees ts x s = false) : Calls Tryz.prog 117 #[.pointer (some ⟨g, 0, none⟩), .string (bs x)] w (NPost (tkn ts s).p 2 w) := by
  have HR := Lib.hid (expect_no x h hs)
  generalize (tkn ts s).p = pp at *
  clear h hs
  go_enter Tryz.func117, Tryz.ntmps117
  go_wp2_with (go_at_call 71; refine HR.out.mono ?_; rintro e w2 ⟨rfl, hb2⟩)
  exact ⟨rfl, rfl, hb2⟩
set_option maxRecDepth 100000 in
set_option maxHeartbeats 1500000 in
theorem finish_yes {w : World} {g c : Nat} {A : Option Addr} {ts : List Tok} {V : Value} {s : St} (x : List UInt8) (h : Px w g A c ts V s) (hs : sees ts x s = true) (hn : s.nx + 1 < ts.length) (ho : 1 ≤ s.op) : Calls Tryz.prog 117 #[.pointer (some ⟨g, 0, none⟩), .string (bs x)] w (PPost g A c ts V (.tuple #[]) { takeS s with op := s.op - 1 } w) := by
  have HR := Lib.hid (expect_yes x h hs hn)
  have H0 := Lib.hid h
  generalize tokV (tkn ts s) = v at *
  have hop := h.op
  clear h hs
  go_enter Tryz.func117, Tryz.ntmps117
  go_wp2_with (go_at_call 71; refine HR.out.mono ?_)
  rintro e W3 ⟨rfl, hX3, hF3⟩
  have d3 := (hX3.box.cell 3).trans rfl
  have fd3 := hX3.box.frozen 3
  have hE := hX3.box.set_ 3 (.int .i64 ((s.op : Int) - 1))
  simp only [List.set_cons_zero, List.set_cons_succ] at hE
  have hFE := Fr.set (E := fun b => b = g) hF3 (g := g) (i := 3) rfl (.int .i64 ((s.op : Int) - 1))
  have HH := Lib.hid (And.intro hE hFE)
  have hb3 := And.intro hX3.nx hX3.mo
  have e3 : (takeS s).op = s.op := rfl
  rw [e3] at d3
  clear hX3 hF3 hE hFE HR e3
  go_wp2
  go_end0
  obtain ⟨hE, hFE⟩ := HH.out
  refine ⟨rfl, H0.out.to hFE ?_ hb3.1 (by show s.op - 1 ≤ 100000; omega) hb3.2, hFE⟩
  have e : ((s.op : Int) - 1) = ((s.op - 1 : Nat) : Int) := by omega
  rw [e] at hE ⊢
  exact hE
set_option maxRecDepth 100000 in
set_option maxHeartbeats 1500000 in
theorem begin_yes {w : World} {g c : Nat} {A : Option Addr} {ts : List Tok} {V : Value} {s : St} (x : List UInt8) (h : Px w g A c ts V s) (hs : sees ts x s = true) (hn : s.nx + 1 < ts.length) (ho : s.op < 40) (hm : s.mo ≤ 40) : Calls Tryz.prog 77 #[.pointer (some ⟨g, 0, none⟩), .string (bs x)] w (PPost g A c ts V (tokV (tkn ts s)) { takeS s with op := s.op + 1, mo := max s.mo (s.op + 1) } w) := by
  obtain ⟨W, hW⟩ : ∃ W, w.alloc (.cells #[.int .i64 0, .int .i64 0, .int .i64 0, .string ⟨#[]⟩] 36) = W := ⟨_, rfl⟩
  have hb : Below w.heap.size w W := by rw [← hW]; exact heap1 _ _
  have hB : Bx W w.heap.size 36 [.int .i64 0, .int .i64 0, .int .i64 0, .string ⟨#[]⟩] := by rw [← hW]; exact Bx.new w 36 _
  have hX := h.below hb
  have hne2 : w.heap.size ≠ g := by have := h.box.lt; omega
  have HC := Lib.hid (sees_any x hX)
  rw [hs] at HC
  have HT := Lib.hid (fun w' (k : Below W.heap.size W w') => expect_yes x (hX.below k) hs hn)
  have H0 := Lib.hid h
  have HX := Lib.hid hX
  generalize tkn ts s = t at *
  clear h hs hX
  unfold tokV at *
  go_enter Tryz.func77, Tryz.ntmps77
  go_wp2_with (go_at_call 41; refine HC.out.mono ?_)
  rintro e w1 ⟨rfl, hb1⟩
  have d3 := ((HX.out.below hb1).box.cell 3).trans rfl
  have q40 : ((s.op : Int) == 40) = false := by rw [beq_eq_false_iff_ne]; omega
  clear HC HX
  go_wp2_with (go_at_call 71; refine (HT.out _ hb1).mono ?_)
  rintro e W3 ⟨rfl, hX3, hF1⟩
  have hB3 := Bx.fr (hB.below hb1 hB.lt) hF1 hne2
  have hF3 : Fr (· = g) w W3 := (Fr.of (bt hb hb1)).trans hF1
  have hzw := hB3.lt
  clear hB hF1 hb hb1 hW HT d3 q40
  obtain ⟨W4, hW4⟩ : ∃ W4, W3.alloc (.cells #[.int .i64 (t.k : Int), .int .i64 t.n, .int .i64 (t.p : Int), .string (bs t.s)] 36) = W4 := ⟨_, rfl⟩
  have hb4 : Below W3.heap.size W3 W4 := by rw [← hW4]; exact heap1 _ _
  have hT4 : Bx W4 W3.heap.size 36 [.int .i64 (t.k : Int), .int .i64 t.n, .int .i64 (t.p : Int), .string (bs t.s)] := by rw [← hW4]; exact Bx.new W3 36 _
  have hB4 := hB3.below hb4 hB3.lt
  have hX4 := hX3.box.below hb4 hX3.box.lt
  have hF4 := hF3.trans (Fr.of hb4)
  have hne1 : W3.heap.size ≠ g := by have := hX3.box.lt; omega
  have hnx := hX3.nx
  have d3 := (hX4.cell 3).trans rfl
  have f3 := hX4.frozen 3
  have hX5 := hX4.set_ 3 (.int .i64 ((s.op : Int) + 1))
  simp only [List.set_cons_zero, List.set_cons_succ] at hX5
  have e3 : (takeS s).op = s.op := rfl
  have e4 : (takeS s).mo = s.mo := rfl
  rw [e3] at d3
  rw [e4] at hX5
  have HH := Lib.hid (And.intro (hT4.far (p := ⟨g, 3, none⟩) hne1 (.int .i64 ((s.op : Int) + 1))) (And.intro (hB4.far (p := ⟨g, 3, none⟩) hne2 (.int .i64 ((s.op : Int) + 1))) (And.intro hX5 (Fr.set (E := fun b => b = g) hF4 (g := g) (i := 3) rfl (.int .i64 ((s.op : Int) + 1))))))
  clear hX3 hF3 hB3 hb4 hT4 hB4 hX4 hF4 hX5 e3 e4
  go_upto_region 5 with (fail)
  obtain ⟨hT5, hB5, hX5, hF5⟩ := HH.out
  clear HH d3 f3 hW4
  generalize W4.setCell ⟨g, 3, none⟩ (.int .i64 ((s.op : Int) + 1)) = W5 at *
  have d3 := (hX5.cell 3).trans rfl
  have d4 := (hX5.cell 4).trans rfl
  have f4 := hX5.frozen 4
  have hmx : max (s.mo : Int) ((s.op : Int) + 1) = ((max s.mo (s.op + 1) : Nat) : Int) := by omega
  go_still_tail 12, (by kernel_rfl)
  change wpList _ _ _ _ _ _
  go_upto_region 6 with (fail)
  have hmz : (if (s.mo : Int) < (s.op : Int) + 1 then (s.op : Int) + 1 else (s.mo : Int)) = ((max s.mo (s.op + 1) : Nat) : Int) := by split <;> omega
  have hX6 := hX5.set_ 4 (.int .i64 ((max s.mo (s.op + 1) : Nat) : Int))
  simp only [List.set_cons_zero, List.set_cons_succ] at hX6
  have hT6 := hT5.far (p := ⟨g, 4, none⟩) hne1 (.int .i64 ((max s.mo (s.op + 1) : Nat) : Int))
  have hB6 := hB5.far (p := ⟨g, 4, none⟩) hne2 (.int .i64 ((max s.mo (s.op + 1) : Nat) : Int))
  have hF6 := Fr.set (E := fun b => b = g) hF5 (g := g) (i := 4) rfl (.int .i64 ((max s.mo (s.op + 1) : Nat) : Int))
  rw [hmz]
  obtain ⟨mm, hmm⟩ : ∃ mm, mm = max s.mo (s.op + 1) := ⟨_, rfl⟩
  rw [← hmm] at hX6 hT6 hB6 hF6 ⊢
  have hmb : mm ≤ 100000 := by omega
  clear hX5 hT5 hB5 hF5 d3 d4 f4 hmx hmz
  refine gen_world (fun w' => Bx w' W3.heap.size 36 [.int .i64 (t.k : Int), .int .i64 t.n, .int .i64 (t.p : Int), .string (bs t.s)] ∧ Bx w' w.heap.size 36 [.int .i64 0, .int .i64 0, .int .i64 0, .string ⟨#[]⟩] ∧ Bx w' g 70 [.slice A ts.length c, .int .i64 ((takeS s).nx : Int), V, .int .i64 ((s.op : Int) + 1), .int .i64 (mm : Int)] ∧ Fr (· = g) w w') ⟨hT6, hB6, hX6, ⟨hF6.os, hF6.tape, hF6.output, hF6.size, hF6.block⟩⟩ fun W7 hW7 => ?_
  obtain ⟨hT7, hB7, hX7, hF7⟩ := hW7
  clear hX6 hT6 hB6 hF6
  have t0 := (hT7.cell 0).trans rfl
  have t1 := (hT7.cell 1).trans rfl
  have t2 := (hT7.cell 2).trans rfl
  have t3 := (hT7.cell 3).trans rfl
  have b0 := (hB7.cell 0).trans rfl
  have b1 := (hB7.cell 1).trans rfl
  have b2 := (hB7.cell 2).trans rfl
  have b3 := (hB7.cell 3).trans rfl
  have f0 := hB7.frozen 0
  have f1 := hB7.frozen 1
  have f2 := hB7.frozen 2
  have f3 := hB7.frozen 3
  have hE := (((hB7.set_ 0 (.int .i64 (t.k : Int))).set_ 1 (.int .i64 t.n)).set_ 2 (.int .i64 (t.p : Int))).set_ 3 (.string (bs t.s))
  have hXE := (((hX7.far (p := ⟨w.heap.size, 0, none⟩) hne2.symm (.int .i64 (t.k : Int))).far (p := ⟨w.heap.size, 1, none⟩) hne2.symm (.int .i64 t.n)).far (p := ⟨w.heap.size, 2, none⟩) hne2.symm (.int .i64 (t.p : Int))).far (p := ⟨w.heap.size, 3, none⟩) hne2.symm (.string (bs t.s))
  have hFE := (((hF7.new (k := w.heap.size) (i := 0) (Nat.le_refl _) (.int .i64 (t.k : Int))).new (k := w.heap.size) (i := 1) (Nat.le_refl _) (.int .i64 t.n)).new (k := w.heap.size) (i := 2) (Nat.le_refl _) (.int .i64 (t.p : Int))).new (k := w.heap.size) (i := 3) (Nat.le_refl _) (.string (bs t.s))
  have HE := Lib.hid (And.intro hE (And.intro hXE hFE))
  have HMM := Lib.hid hmm
  clear hE hXE hFE hT7 hB7 hX7 hF7 hmm
  go_wp2
  obtain ⟨hE, hXE, hFE⟩ := HE.out
  have z0 := hE.cell 0
  have z1 := hE.cell 1
  have z2 := hE.cell 2
  have z3 := hE.cell 3
  simp only [List.set_cons_zero, List.set_cons_succ, List.getElem?_cons_zero, List.getElem?_cons_succ] at z0 z1 z2 z3
  generalize (((W7.setCell ⟨w.heap.size, 0, none⟩ (.int .i64 (t.k : Int))).setCell ⟨w.heap.size, 1, none⟩ (.int .i64 t.n)).setCell ⟨w.heap.size, 2, none⟩ (.int .i64 (t.p : Int))).setCell ⟨w.heap.size, 3, none⟩ (.string (bs t.s)) = W8 at *
  have e : ((s.op : Int) + 1) = ((s.op + 1 : Nat) : Int) := by omega
  rw [e, HMM.out] at hXE
  exact bodyPost_ret (v := .agg #[.int .i64 (t.k : Int), .int .i64 t.n, .int .i64 (t.p : Int), .string (bs t.s)]) (by simp [results, Tryz.f77, go_sem, z0, z1, z2, z3]) rfl ⟨rfl, H0.out.to hFE hXE hnx (by show s.op + 1 ≤ 100000; omega) (by show max s.mo (s.op + 1) ≤ 100000; omega), hFE⟩
end
end Go.Proofs.YtdoeinjplgeadaaGreatDoor
