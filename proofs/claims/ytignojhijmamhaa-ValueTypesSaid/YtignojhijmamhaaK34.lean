/- PROVED here: parts VaJ VaK of the claim. No condition but those in each theorem's own head. -/
import Derived.Test.YtignojhijmamhaaK33
namespace Go.Proofs.Ytignojhijmamhaa.Va
open Go Go.RowKit Go.Sort
def CellP (vs : List Value) (i q : Nat) (w : World) (e : Ending) (w' : World) : Prop := ∃ r n d, vs[i]? = some (.slice (some ⟨r, 0, none⟩) n d) ∧ e = .returned (.tuple #[.pointer (some ⟨r, q, none⟩), .int .i64 0]) ∧ Below w.heap.size w w'
def NoP (x : Int) (w : World) (e : Ending) (w' : World) : Prop := e = .returned (.tuple #[.pointer none, .int .i64 x]) ∧ Below w.heap.size w w'
set_option maxRecDepth 100000 in
theorem cell_no {w : World} {base g : Nat} {v : Value} {vs : List Value} {L : List (List Int)} (h : Hp 39 C46 w base g v vs L) (k n j i : Int) (hw : wrongH L k n j i ≠ 0) : Calls Try.prog 30 #[.pointer (some ⟨g, 0, none⟩), .agg #[.int .i64 k, .int .i64 n], .agg #[.int .i64 j, .int .i64 i]] w (NoP (wrongH L k n j i) w) := by
  have hX0 := Bx.new w 41 [.int .i64 k, .int .i64 n]
  replace hX0 := hX0.alloc (.cells #[.int .i64 j, .int .i64 i] 41)
  have hX1 := Bx.new (w.alloc (.cells #[.int .i64 k, .int .i64 n] 41)) 41 [.int .i64 j, .int .i64 i]
  simp only [World.size_alloc] at hX1
  have hb0 : Below w.heap.size w ((w.alloc (.cells #[.int .i64 k, .int .i64 n] 41)).alloc (.cells #[.int .i64 j, .int .i64 i] 41)) := (heap1 _ _).alloc (by simp only [World.size_alloc]; omega) _
  have hg0 := h.below hb0
  obtain ⟨W0, hW0⟩ : ∃ W0, ((w.alloc (.cells #[.int .i64 k, .int .i64 n] 41)).alloc (.cells #[.int .i64 j, .int .i64 i] 41)) = W0 := ⟨_, rfl⟩
  have HX0 := Lib.hid (show Bx W0 (w.heap.size) 41 [.int .i64 k, .int .i64 n] by rw [← hW0]; exact hX0)
  have HX1 := Lib.hid (show Bx W0 (w.heap.size + 1) 41 [.int .i64 j, .int .i64 i] by rw [← hW0]; exact hX1)
  rw [hW0] at hb0 hg0
  have HB0 := Lib.hid hb0
  have HG := Lib.hid hg0
  have x00 := (HX0.out.cell 0).trans rfl
  have x01 := (HX0.out.cell 1).trans rfl
  have x10 := (HX1.out.cell 0).trans rfl
  have x11 := (HX1.out.cell 1).trans rfl
  clear hb0 hg0 hX0 hX1
  have hfew := h.few
  clear h
  have HH := Lib.hid (has_any HG.out k n)
  cases hb : hasB L k n
  · rw [hb] at HH
    rw [show wrongH L k n j i = 3 by unfold wrongH; rw [hb]; rfl]
    clear hb hw
    go_enter Try.func30, Try.ntmps30
    go_wp2_with (go_at_call 51; refine HH.out.mono ?_; rintro e w1 ⟨rfl, hb1⟩)
    go_ret2
    exact ⟨rfl, bt HB0.out hb1⟩
  · rw [hb] at HH
    have hv : wrongH L k n j i = if j = 1 ∧ 0 ≤ i ∧ i < ((rowAt L n).length : Int) then 0 else 2 := by unfold wrongH; rw [hb]; rfl
    have hno : ¬ (j = 1 ∧ 0 ≤ i ∧ i < ((rowAt L n).length : Int)) := fun q => hw (by rw [hv, if_pos q])
    rw [hv, if_neg hno]
    clear hv hw
    obtain ⟨p, rfl, hp, hr⟩ := has_at hb
    rw [hr] at hno
    clear hb hr
    have HW := Lib.hid (wrap_pred p (by omega))
    have HI := Lib.hid hp
    have HN := Lib.hid hno
    clear hno
    obtain ⟨m, hm⟩ : ∃ m, (L[p]'hp).length = m := ⟨_, rfl⟩
    rw [hm] at HN
    have HM := Lib.hid hm
    clear hm
    go_enter Try.func30, Try.ntmps30
    go_wp2_with (go_at_call 51; refine HH.out.mono ?_; rintro e w1 ⟨rfl, hb1⟩)
    have hG1 := HG.out.below hb1
    obtain ⟨b, c, e1, hbl, A, d, hc, -⟩ := hG1.row HI.out
    rw [HM.out] at hc
    have hg0 := (hG1.bx.cell 0).trans rfl
    rw [e1] at hg0
    have s0 := cell_regrown hg0
    have s1 := cell_regrown (((HX0.out.below hb1 HX0.out.lt).cell 1).trans rfl)
    have s2 := cell_regrown hc
    have y0 := (HX1.out.below hb1 HX1.out.lt)
    have hiz : (p : Int) < (L.length : Int) := by have := HI.out; omega
    have HB1 := Lib.hid (bt HB0.out hb1)
    have HY := Lib.hid y0
    clear hg0 hc hb1 hG1 e1 x00 x01 x10 x11 y0
    have hw := HW.out
    go_upto_region 3 with (fail)
    refine wp_region_quiet_below (by kernel_rfl) (by kernel_rfl) ?_
    repeat (first | go_big_quiet_step (first | fail))
    refine wpQuiet_nil ?_
    intro _ hw'
    obtain ⟨⟨dq, osq⟩, hw''⟩ := hw'
    subst hw''
    have hbq := below_regrown w1 dq osq
    generalize grow (redrawn w1 dq) osq = w9 at *
    have HE := Lib.hid (bt HB1.out hbq)
    have z0 := ((HY.out.below hbq HY.out.lt).cell 0).trans rfl
    have z1 := ((HY.out.below hbq HY.out.lt).cell 1).trans rfl
    clear hbq s0 s1 s2 hw
    by_cases h1 : j = 1
    · subst h1
      by_cases h2 : 0 ≤ i
      · have b2 : ¬ i < 0 := by omega
        have b3 : (m : Int) ≤ i := by have := HN.out; omega
        go_wp2
        go_ret2
        exact ⟨rfl, HE.out⟩
      · have b2 : i < 0 := by omega
        go_wp2
        go_ret2
        exact ⟨rfl, HE.out⟩
    · have b1 : (j != 1) = true := by simpa using h1
      go_wp2
      go_ret2
      exact ⟨rfl, HE.out⟩
set_option maxRecDepth 100000 in
theorem cell_yes {w : World} {base g : Nat} {v : Value} {vs : List Value} {L : List (List Int)} (h : Hp 39 C46 w base g v vs L) {p : Nat} (hp : p < L.length) {q : Nat} (hq : q < L[p].length) : Calls Try.prog 30 #[.pointer (some ⟨g, 0, none⟩), .agg #[.int .i64 3, .int .i64 ((p : Int) + 1)], .agg #[.int .i64 1, .int .i64 (q : Int)]] w (CellP vs p q w) := by
  have hX0 := Bx.new w 41 [.int .i64 3, .int .i64 ((p : Int) + 1)]
  replace hX0 := hX0.alloc (.cells #[.int .i64 1, .int .i64 (q : Int)] 41)
  have hX1 := Bx.new (w.alloc (.cells #[.int .i64 3, .int .i64 ((p : Int) + 1)] 41)) 41 [.int .i64 1, .int .i64 (q : Int)]
  simp only [World.size_alloc] at hX1
  have hb0 : Below w.heap.size w ((w.alloc (.cells #[.int .i64 3, .int .i64 ((p : Int) + 1)] 41)).alloc (.cells #[.int .i64 1, .int .i64 (q : Int)] 41)) := (heap1 _ _).alloc (by simp only [World.size_alloc]; omega) _
  have hg0 := h.below hb0
  obtain ⟨W0, hW0⟩ : ∃ W0, ((w.alloc (.cells #[.int .i64 3, .int .i64 ((p : Int) + 1)] 41)).alloc (.cells #[.int .i64 1, .int .i64 (q : Int)] 41)) = W0 := ⟨_, rfl⟩
  have HX0 := Lib.hid (show Bx W0 (w.heap.size) 41 [.int .i64 3, .int .i64 ((p : Int) + 1)] by rw [← hW0]; exact hX0)
  have HX1 := Lib.hid (show Bx W0 (w.heap.size + 1) 41 [.int .i64 1, .int .i64 (q : Int)] by rw [← hW0]; exact hX1)
  rw [hW0] at hb0 hg0
  have HB0 := Lib.hid hb0
  have HG := Lib.hid hg0
  have x00 := (HX0.out.cell 0).trans rfl
  have x01 := (HX0.out.cell 1).trans rfl
  have x10 := (HX1.out.cell 0).trans rfl
  have x11 := (HX1.out.cell 1).trans rfl
  clear hb0 hg0 hX0 hX1
  have hfew := h.few
  clear h
  have HH := Lib.hid (has_any HG.out 3 ((p : Int) + 1))
  rw [show hasB L 3 ((p : Int) + 1) = true by unfold hasB; simp; omega] at HH
  have HW := Lib.hid (wrap_pred p (by omega))
  have HI := Lib.hid hp
  obtain ⟨m, hm⟩ : ∃ m, (L[p]'hp).length = m := ⟨_, rfl⟩
  have HQ := Lib.hid hq
  have HM := Lib.hid hm
  have hmb : m ≤ 262144 := by have := cells_row hp; have := HG.out.cap; omega
  rw [hm] at hq
  clear hm
  have hqz : (q : Int) < (m : Int) := by omega
  have b2 : ¬ (q : Int) < 0 := by omega
  have b3 : ¬ (m : Int) ≤ (q : Int) := by omega
  go_enter Try.func30, Try.ntmps30
  go_wp2_with (go_at_call 51; refine HH.out.mono ?_; rintro e w1 ⟨rfl, hb1⟩)
  have hG1 := HG.out.below hb1
  obtain ⟨b, c, r, d, e1, hbl, hvs, hc, -⟩ := hG1.at_ HI.out HQ.out
  rw [HM.out] at hc hvs
  have hg0 := (hG1.bx.cell 0).trans rfl
  rw [e1] at hg0
  have s0 := cell_regrown hg0
  have s1 := cell_regrown (((HX0.out.below hb1 HX0.out.lt).cell 1).trans rfl)
  have s2 := cell_regrown hc
  have HY := Lib.hid (HX1.out.below hb1 HX1.out.lt)
  have HV := Lib.hid hvs
  have hiz : (p : Int) < (L.length : Int) := by have := HI.out; omega
  have HB1 := Lib.hid (bt HB0.out hb1)
  clear hg0 hc hb1 hG1 e1 x00 x01 x10 x11 hvs
  have hw := HW.out
  go_upto_region 3 with (fail)
  refine wp_region_quiet_below (by kernel_rfl) (by kernel_rfl) ?_
  repeat (first | go_big_quiet_step (first | fail))
  refine wpQuiet_nil ?_
  intro _ hw'
  obtain ⟨⟨dq, osq⟩, hw''⟩ := hw'
  subst hw''
  have hbq := below_regrown w1 dq osq
  generalize grow (redrawn w1 dq) osq = w9 at *
  have HE := Lib.hid (bt HB1.out hbq)
  have z0 := ((HY.out.below hbq HY.out.lt).cell 0).trans rfl
  have z1 := ((HY.out.below hbq HY.out.lt).cell 1).trans rfl
  clear hbq s0 s1 s2 hw
  go_wp2
  go_ret2
  exact ⟨r, m, d, HV.out, rfl, HE.out⟩
end Go.Proofs.Ytignojhijmamhaa.Va
namespace Go.Proofs.Ytignojhijmamhaa.Va
open Go Go.RowKit Go.Sort
theorem get_yes {L : List (List Int)} {k n j i : Int} (h : wrongH L k n j i = 0) : ∃ p q : Nat, k = 3 ∧ n = (p : Int) + 1 ∧ j = 1 ∧ i = (q : Int) ∧ ∃ (hp : p < L.length) (hq : q < (L[p]'hp).length), getV L k n j i = ((1, (L[p]'hp)[q]'hq), 0) ∧ ∀ x, setH L k n j i 1 x = L.set p ((L[p]'hp).set q x) := by
  obtain ⟨hb, h1, h2, h3⟩ := wrong_zero h
  obtain ⟨p, hn, hp, hr⟩ := has_at hb
  obtain ⟨q, hq⟩ : ∃ q : Nat, i = (q : Int) := ⟨i.toNat, by omega⟩
  subst hq hn
  have hk := (has_yes hb).1
  rw [hr] at h3
  refine ⟨p, q, hk, rfl, h1, rfl, hp, by omega, ?_, fun x => ?_⟩
  · unfold getV
    rw [if_pos h, hr, List.getD_eq_getElem?_getD, List.getElem?_eq_getElem (show ((q : Nat) : Int).toNat < L[p].length by omega)]
    rfl
  · unfold setH
    rw [if_pos ⟨h, rfl⟩, hr]
    rw [show ((p : Int) + 1 - 1).toNat = p by omega]
    rfl
def SetP (T : TypeId) (C : List (List Int) → List Value) (base g : Nat) (v : Value) (vs : List Value) (L : List (List Int)) (x : Int) (w : World) (e : Ending) (w' : World) : Prop := e = .returned (.int .i64 x) ∧ Hp T C w' base g v vs L ∧ Fr (Fp g v vs) w w'
theorem frT {w w1 : World} {g : Nat} {v : Value} {vs : List Value} (h : Below w.heap.size w w1) {w2 : World} (k : Fr (Fp g v vs) w1 w2) : Fr (Fp g v vs) w w2 := (Fr.of_below (F := Fp g v vs) h).trans k fun _ hx => .inl hx
set_option maxRecDepth 100000 in
set_option maxHeartbeats 1000000 in
theorem get_any {w : World} {base g : Nat} {v : Value} {vs : List Value} {L : List (List Int)} (h : Hp 39 C46 w base g v vs L) (k n j i : Int) : Calls Try.prog 14 #[.pointer (some ⟨g, 0, none⟩), .agg #[.int .i64 k, .int .i64 n], .agg #[.int .i64 j, .int .i64 i]] w (VI (getV L k n j i).1.1 (getV L k n j i).1.2 (getV L k n j i).2 w) := by
  have hX0 := Bx.new w 41 [.int .i64 k, .int .i64 n]
  replace hX0 := hX0.alloc (.cells #[.int .i64 j, .int .i64 i] 41)
  replace hX0 := hX0.alloc (.cells #[.int .i64 0, .int .i64 0] 41)
  have hX1 := Bx.new (w.alloc (.cells #[.int .i64 k, .int .i64 n] 41)) 41 [.int .i64 j, .int .i64 i]
  simp only [World.size_alloc] at hX1
  replace hX1 := hX1.alloc (.cells #[.int .i64 0, .int .i64 0] 41)
  have hX2 := Bx.new ((w.alloc (.cells #[.int .i64 k, .int .i64 n] 41)).alloc (.cells #[.int .i64 j, .int .i64 i] 41)) 41 [.int .i64 0, .int .i64 0]
  simp only [World.size_alloc] at hX2
  have hb0 : Below w.heap.size w (((w.alloc (.cells #[.int .i64 k, .int .i64 n] 41)).alloc (.cells #[.int .i64 j, .int .i64 i] 41)).alloc (.cells #[.int .i64 0, .int .i64 0] 41)) := ((heap1 _ _).alloc (by simp only [World.size_alloc]; omega) _).alloc (by simp only [World.size_alloc]; omega) _
  have hg0 := h.below hb0
  obtain ⟨W0, hW0⟩ : ∃ W0, (((w.alloc (.cells #[.int .i64 k, .int .i64 n] 41)).alloc (.cells #[.int .i64 j, .int .i64 i] 41)).alloc (.cells #[.int .i64 0, .int .i64 0] 41)) = W0 := ⟨_, rfl⟩
  have HX0 := Lib.hid (show Bx W0 (w.heap.size) 41 [.int .i64 k, .int .i64 n] by rw [← hW0]; exact hX0)
  have HX1 := Lib.hid (show Bx W0 (w.heap.size + 1) 41 [.int .i64 j, .int .i64 i] by rw [← hW0]; exact hX1)
  have HX2 := Lib.hid (show Bx W0 (w.heap.size + 1 + 1) 41 [.int .i64 0, .int .i64 0] by rw [← hW0]; exact hX2)
  rw [hW0] at hb0 hg0
  have HB0 := Lib.hid hb0
  have HG := Lib.hid hg0
  have x00 := (HX0.out.cell 0).trans rfl
  have x01 := (HX0.out.cell 1).trans rfl
  have x10 := (HX1.out.cell 0).trans rfl
  have x11 := (HX1.out.cell 1).trans rfl
  have x20 := (HX2.out.cell 0).trans rfl
  have x21 := (HX2.out.cell 1).trans rfl
  clear hb0 hg0 hX0 hX1 hX2
  clear h
  have hfew := HG.out.few
  by_cases hw : wrongH L k n j i = 0
  · obtain ⟨p, q, rfl, rfl, rfl, rfl, hp, hq, hv, -⟩ := get_yes hw
    rw [hv]
    have HV := Lib.hid hp
    have HQ := Lib.hid hq
    have HC := Lib.hid (cell_yes HG.out hp hq)
    have HN := Lib.hid (fun W => number_any (L[p]'hp)[q] W)
    have HM := Lib.hid (fun (r n d : Nat) (W : World) (hb : Below W0.heap.size W0 W) (e : vs[p]? = some (.slice (some ⟨r, 0, none⟩) n d)) => show W.cell? ⟨r, q, none⟩ = some (.int .i64 (L[p]'hp)[q]) from by
      obtain ⟨_, _, r2, d2, _, _, hv2, _, _, hc2, _⟩ := (HG.out.below hb).at_ hp hq
      rw [e] at hv2
      injection hv2 with hv2
      injection hv2 with h1 _ _
      injection h1 with h1
      injection h1 with h1
      rw [h1]; exact hc2)
    generalize (L[p]'hp)[q] = z at *
    clear hw hv
    go_enter Try.func14, Try.ntmps14
    go_wp2_with (go_at_call 30; refine HC.out.mono ?_)
    rintro e w1 ⟨r, nn, d, hr, rfl, hb1⟩
    have hcz := HM.out r nn d w1 hb1 hr
    have hR := HX2.out.below hb1 HX2.out.lt
    have c0 := (hR.cell 0).trans rfl
    have c1 := (hR.cell 1).trans rfl
    have g0 := hR.frozen 0
    have g1 := hR.frozen 1
    have hz := hR.lt
    have HB1 := Lib.hid (bt HB0.out hb1)
    clear hr hb1 hR x00 x01 x10 x11 x20 x21
    go_wp2_with (go_at_call 31; refine (HN.out _).mono ?_; rintro e w' ⟨rfl, rfl⟩)
    exact bodyPost_ret (v := .tuple #[.agg #[.int .i64 1, .int .i64 z], .int .i64 0]) (by simp [results, Try.results14, go_sem, c0, c1, hz]) rfl ⟨rfl, (below2 HB1.out (by omega)).alloc (by have := HB1.out.size; simpa using this) _⟩
  · rw [show getV L k n j i = ((0, 0), wrongH L k n j i) by unfold getV; rw [if_neg hw]]
    have hw2 : (wrongH L k n j i != 0) = true := by simpa using hw
    have HC := Lib.hid (cell_no HG.out k n j i hw)
    generalize wrongH L k n j i = x at *
    clear hw
    go_enter Try.func14, Try.ntmps14
    go_wp2_with (go_at_call 30; refine HC.out.mono ?_)
    rintro e w1 ⟨rfl, hb1⟩
    have hR := HX2.out.below hb1 HX2.out.lt
    have c0 := (hR.cell 0).trans rfl
    have c1 := (hR.cell 1).trans rfl
    have g0 := hR.frozen 0
    have g1 := hR.frozen 1
    have HB1 := Lib.hid (bt HB0.out hb1)
    clear hb1 hR x00 x01 x10 x11 x20 x21
    go_wp2
    exact bodyPost_ret (v := .tuple #[.agg #[.int .i64 0, .int .i64 0], .int .i64 x]) (by simp [results, Try.results14, go_sem, c0, c1]) rfl ⟨rfl, below2 HB1.out (by omega)⟩
set_option maxRecDepth 100000 in
set_option maxHeartbeats 1000000 in
theorem set_any {w : World} {base g : Nat} {v : Value} {vs : List Value} {L : List (List Int)} (h : Hp 39 C46 w base g v vs L) (k n j i a x : Int) : Calls Try.prog 13 #[.pointer (some ⟨g, 0, none⟩), .agg #[.int .i64 k, .int .i64 n], .agg #[.int .i64 j, .int .i64 i], .agg #[.int .i64 a, .int .i64 x]] w (SetP 39 C46 base g v vs (setH L k n j i a x) (wrongH L k n j i) w) := by
  have hX0 := Bx.new w 41 [.int .i64 k, .int .i64 n]
  replace hX0 := hX0.alloc (.cells #[.int .i64 j, .int .i64 i] 41)
  replace hX0 := hX0.alloc (.cells #[.int .i64 a, .int .i64 x] 41)
  have hX1 := Bx.new (w.alloc (.cells #[.int .i64 k, .int .i64 n] 41)) 41 [.int .i64 j, .int .i64 i]
  simp only [World.size_alloc] at hX1
  replace hX1 := hX1.alloc (.cells #[.int .i64 a, .int .i64 x] 41)
  have hX2 := Bx.new ((w.alloc (.cells #[.int .i64 k, .int .i64 n] 41)).alloc (.cells #[.int .i64 j, .int .i64 i] 41)) 41 [.int .i64 a, .int .i64 x]
  simp only [World.size_alloc] at hX2
  have hb0 : Below w.heap.size w (((w.alloc (.cells #[.int .i64 k, .int .i64 n] 41)).alloc (.cells #[.int .i64 j, .int .i64 i] 41)).alloc (.cells #[.int .i64 a, .int .i64 x] 41)) := ((heap1 _ _).alloc (by simp only [World.size_alloc]; omega) _).alloc (by simp only [World.size_alloc]; omega) _
  have hg0 := h.below hb0
  obtain ⟨W0, hW0⟩ : ∃ W0, (((w.alloc (.cells #[.int .i64 k, .int .i64 n] 41)).alloc (.cells #[.int .i64 j, .int .i64 i] 41)).alloc (.cells #[.int .i64 a, .int .i64 x] 41)) = W0 := ⟨_, rfl⟩
  have HX0 := Lib.hid (show Bx W0 (w.heap.size) 41 [.int .i64 k, .int .i64 n] by rw [← hW0]; exact hX0)
  have HX1 := Lib.hid (show Bx W0 (w.heap.size + 1) 41 [.int .i64 j, .int .i64 i] by rw [← hW0]; exact hX1)
  have HX2 := Lib.hid (show Bx W0 (w.heap.size + 1 + 1) 41 [.int .i64 a, .int .i64 x] by rw [← hW0]; exact hX2)
  rw [hW0] at hb0 hg0
  have HB0 := Lib.hid hb0
  have HG := Lib.hid hg0
  have x00 := (HX0.out.cell 0).trans rfl
  have x01 := (HX0.out.cell 1).trans rfl
  have x10 := (HX1.out.cell 0).trans rfl
  have x11 := (HX1.out.cell 1).trans rfl
  have x20 := (HX2.out.cell 0).trans rfl
  have x21 := (HX2.out.cell 1).trans rfl
  clear hb0 hg0 hX0 hX1 hX2
  clear h
  have hfew := HG.out.few
  by_cases hw : wrongH L k n j i = 0
  · obtain ⟨p, q, rfl, rfl, rfl, rfl, hp, hq, -, hset⟩ := get_yes hw
    have hnot : a ≠ 1 → setH L 3 ((p : Int) + 1) 1 (q : Int) a x = L := fun ha => by unfold setH; rw [if_neg (fun z => ha z.2)]
    have HN := Lib.hid hnot
    have HS := Lib.hid (hset x)
    rw [hw]
    have HV := Lib.hid hp
    have HC := Lib.hid (cell_yes HG.out hp hq)
    have HM := Lib.hid (fun (r n d : Nat) (W : World) (hb : Below W0.heap.size W0 W) (e : vs[p]? = some (.slice (some ⟨r, 0, none⟩) n d)) => show (∃ u, W.cell? ⟨r, q, none⟩ = some u) ∧ W.frozen? ⟨r, q, none⟩ = false ∧ (Hp 39 C46 (W.setCell ⟨r, q, none⟩ (.int .i64 x)) base g v vs (L.set p ((L[p]'hp).set q x)) ∧ Fr (Fp g v vs) W (W.setCell ⟨r, q, none⟩ (.int .i64 x))) from by
      obtain ⟨_, _, r2, d2, _, _, hv2, _, _, hc2, hf2⟩ := (HG.out.below hb).at_ hp hq
      have hset2 := (HG.out.below hb).set_ k46 (by decide) hp hv2 (q := q) x
      rw [e] at hv2
      injection hv2 with hv2
      injection hv2 with h1 _ _
      injection h1 with h1
      injection h1 with h1
      rw [h1]; exact ⟨⟨_, hc2⟩, hf2, hset2⟩)
    clear hw hset hnot
    by_cases ha : a = 1
    · subst ha
      rw [HS.out]
      go_enter Try.func13, Try.ntmps13
      go_wp2_with (go_at_call 30; refine HC.out.mono ?_)
      rintro e w1 ⟨r, nn, d, hr, rfl, hb1⟩
      obtain ⟨⟨u, hcz⟩, hfz, hH, hF⟩ := HM.out r nn d w1 hb1 hr
      have y20 := ((HX2.out.below hb1 HX2.out.lt).cell 0).trans rfl
      have y21 := ((HX2.out.below hb1 HX2.out.lt).cell 1).trans rfl
      have HE := Lib.hid (And.intro hH (frT (bt HB0.out hb1) hF))
      clear hr hb1 x00 x01 x10 x11 x20 x21 hH hF
      go_wp2
      go_ret
      exact ⟨rfl, HE.out⟩
    · have ha2 : (a == 1) = false := beq_eq_false_iff_ne.2 ha
      rw [HN.out ha]
      clear ha
      go_enter Try.func13, Try.ntmps13
      go_wp2_with (go_at_call 30; refine HC.out.mono ?_)
      rintro e w1 ⟨r, nn, d, hr, rfl, hb1⟩
      have y20 := ((HX2.out.below hb1 HX2.out.lt).cell 0).trans rfl
      have y21 := ((HX2.out.below hb1 HX2.out.lt).cell 1).trans rfl
      have HE := Lib.hid (And.intro (HG.out.below hb1) (Fr.of_below (F := Fp g v vs) (bt HB0.out hb1)))
      clear hr hb1 x00 x01 x10 x11 x20 x21
      go_wp2
      go_ret
      exact ⟨rfl, HE.out⟩
  · rw [show setH L k n j i a x = L by unfold setH; rw [if_neg (fun z => hw z.1)]]
    have hw2 : (wrongH L k n j i == 0) = false := beq_eq_false_iff_ne.2 hw
    have HC := Lib.hid (cell_no HG.out k n j i hw)
    generalize wrongH L k n j i = x at *
    clear hw
    go_enter Try.func13, Try.ntmps13
    go_wp2_with (go_at_call 30; refine HC.out.mono ?_)
    rintro e w1 ⟨rfl, hb1⟩
    have HE := Lib.hid (And.intro (HG.out.below hb1) (Fr.of_below (F := Fp g v vs) (bt HB0.out hb1)))
    clear hb1 x00 x01 x10 x11 x20 x21
    go_wp2
    go_ret
    exact ⟨rfl, HE.out⟩
end Go.Proofs.Ytignojhijmamhaa.Va
