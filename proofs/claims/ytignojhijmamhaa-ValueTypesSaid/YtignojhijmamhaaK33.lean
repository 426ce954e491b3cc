/- PROVED here: parts VaG VaH VaI of the claim. No condition but those in each theorem's own head. -/
import Derived.Test.YtignojhijmamhaaK32
import Derived.Laws.LoneSync
import Derived.Laws.Pointers
import Derived.ChangeAlike
import Derived.RegionCalls
import Derived.Lib.QuietBelow
namespace Go.Proofs.Ytignojhijmamhaa.Va
open Go Go.RowKit Go.Sort
theorem aload_any (a : Addr) (n : Int) (w : World) (hc : w.cell? a = some (.int .i64 n)) : Calls Try.prog 20 #[.pointer (some a)] w fun e w' => e = .returned (.int .i64 n) ∧ w = w' := by
  have hl := run_call_load (P := Try.prog) Try.func41 (by kernel_rfl) (by kernel_rfl) (by kernel_rfl) .i64 (by kernel_rfl) hc
  go_enter Try.func20, Try.ntmps20
  go_wp2
  go_ret
  exact ⟨rfl, rfl⟩
theorem aadd_any (a : Addr) (n d : Int) (w : World) (hc : w.cell? a = some (.int .i64 n)) (hz : w.frozen? a = false) : Calls Try.prog 21 #[.pointer (some a), .int .i64 d] w fun e w' => e = .returned (.int .i64 (wrap64 (n + d))) ∧ w' = w.setCell a (.int .i64 (wrap64 (n + d))) := by
  have hl := run_call_add (P := Try.prog) Try.func42 (by kernel_rfl) (by kernel_rfl) (by kernel_rfl) .i64 (by kernel_rfl) (y := d) (s := wrap64 (n + d)) hc hz (by simp [go_sem, wrap64, IntKind.wrap_i64])
  go_enter Try.func21, Try.ntmps21
  go_wp2
  go_ret
  exact ⟨rfl, rfl⟩
theorem has_any {w : World} {base g : Nat} {v : Value} {vs : List Value} {L : List (List Int)} (h : Hp 39 C46 w base g v vs L) (k n : Int) : Calls Try.prog 51 #[.pointer (some ⟨g, 0, none⟩), .agg #[.int .i64 k, .int .i64 n]] w (BP (hasB L k n) w) := by
  obtain ⟨A, c, rfl⟩ := h.slice
  have hb0 := heap1 w (.cells #[.int .i64 k, .int .i64 n] 41)
  have hX := Bx.new w 41 [.int .i64 k, .int .i64 n]
  have hG := h.bx.below hb0 h.bx.lt
  have HB0 := Lib.hid hb0
  have hfew := h.few
  obtain ⟨W0, hW0⟩ : ∃ W0, w.alloc (.cells #[.int .i64 k, .int .i64 n] 41) = W0 := ⟨_, rfl⟩
  rw [show (w.alloc (.cells [Value.int .i64 k, .int .i64 n].toArray 41)) = W0 from hW0] at hX
  rw [hW0] at hG HB0
  have s0 := cell_regrown ((hX.cell 0).trans rfl)
  have s1 := cell_regrown ((hX.cell 1).trans rfl)
  have s2 := cell_regrown ((hG.cell 0).trans rfl)
  clear hb0 hX hG h
  generalize hm : L.length = m at *
  unfold hasB
  rw [hm]
  clear hm
  cases h1 : decide (k = 3)
  · have k1 : (k == 3) = false := by rw [← h1]; rfl
    clear h1
    go_enter Try.func51, Try.ntmps51
    go_upto_region 1 with (fail)
    refine wp_region_quiet_below (by kernel_rfl) (by kernel_rfl) ?_
    repeat (first | go_big_quiet_step (first | fail))
    refine wpQuiet_nil ?_
    intro _ hw'
    obtain ⟨⟨dq, osq⟩, hw''⟩ := hw'
    subst hw''
    have hbq := below_regrown W0 dq osq
    generalize grow (redrawn W0 dq) osq = w9 at *
    go_wp2
    go_ret
    exact ⟨rfl, bt HB0.out hbq⟩
  · have k1 : (k == 3) = true := by rw [← h1]; rfl
    clear h1
    cases h2 : decide (1 ≤ n)
    · go_enter Try.func51, Try.ntmps51
      go_upto_region 1 with (fail)
      refine wp_region_quiet_below (by kernel_rfl) (by kernel_rfl) ?_
      repeat (first | go_big_quiet_step (first | fail))
      refine wpQuiet_nil ?_
      intro _ hw'
      obtain ⟨⟨dq, osq⟩, hw''⟩ := hw'
      subst hw''
      have hbq := below_regrown W0 dq osq
      generalize grow (redrawn W0 dq) osq = w9 at *
      go_wp2
      go_ret
      exact ⟨rfl, bt HB0.out hbq⟩
    · cases h3 : decide (n ≤ (m : Int)) <;>
      · go_enter Try.func51, Try.ntmps51
        go_upto_region 1 with (fail)
        refine wp_region_quiet_below (by kernel_rfl) (by kernel_rfl) ?_
        repeat (first | go_big_quiet_step (first | fail))
        refine wpQuiet_nil ?_
        intro _ hw'
        obtain ⟨⟨dq, osq⟩, hw''⟩ := hw'
        subst hw''
        have hbq := below_regrown W0 dq osq
        generalize grow (redrawn W0 dq) osq = w9 at *
        go_wp2
        go_ret
        exact ⟨rfl, bt HB0.out hbq⟩
end Go.Proofs.Ytignojhijmamhaa.Va
namespace Go.Proofs.Ytignojhijmamhaa.Va
open Go Go.RowKit Go.Sort
theorem wrap_pred (i : Nat) (h : i < 4000000) : IntKind.i64.wrap ((i : Int) + 1 - 1) = (i : Int) := IntWalk.i64_in _ (by omega) |>.trans (by omega)
set_option maxRecDepth 100000 in
theorem len_any {w : World} {base g : Nat} {v : Value} {vs : List Value} {L : List (List Int)} (h : Hp 39 C46 w base g v vs L) (k n : Int) : Calls Try.prog 63 #[.pointer (some ⟨g, 0, none⟩), .agg #[.int .i64 k, .int .i64 n]] w (IP (lenH L k n) w) := by
  have hb0 := heap1 w (.cells #[.int .i64 k, .int .i64 n] 41)
  have hX := Bx.new w 41 [.int .i64 k, .int .i64 n]
  have HG := Lib.hid (h.below hb0)
  have HB0 := Lib.hid hb0
  have hfew := h.few
  obtain ⟨W0, hW0⟩ : ∃ W0, w.alloc (.cells #[.int .i64 k, .int .i64 n] 41) = W0 := ⟨_, rfl⟩
  rw [show (w.alloc (.cells [Value.int .i64 k, .int .i64 n].toArray 41)) = W0 from hW0] at hX
  rw [hW0] at HG HB0
  have HX := Lib.hid hX
  have x0 := (hX.cell 0).trans rfl
  have x1 := (hX.cell 1).trans rfl
  clear hX hb0 h
  have HH := Lib.hid (has_any HG.out k n)
  unfold lenH
  cases hb : hasB L k n
  · rw [hb] at HH
    show Calls _ _ _ _ (IP 0 w)
    clear hb
    go_enter Try.func63, Try.ntmps63
    go_wp2_with (go_at_call 51; refine HH.out.mono ?_; rintro e w1 ⟨rfl, hb1⟩)
    go_ret
    exact ⟨rfl, bt HB0.out hb1⟩
  · rw [hb] at HH
    obtain ⟨i, rfl, hi, hr⟩ := has_at hb
    rw [hr]
    clear hr
    show Calls _ _ _ _ (IP (L[i].length : Int) w)
    have HW := Lib.hid (wrap_pred i (by omega))
    have HI := Lib.hid hi
    clear hb
    go_enter Try.func63, Try.ntmps63
    go_wp2_with (go_at_call 51; refine HH.out.mono ?_; rintro e w1 ⟨rfl, hb1⟩)
    have hG1 := HG.out.below hb1
    obtain ⟨b, c, e1, hbl, A, d, hc, -⟩ := hG1.row HI.out
    have hg0 := (hG1.bx.cell 0).trans rfl
    rw [e1] at hg0
    have hX1 := HX.out.below hb1 HX.out.lt
    have s0 := cell_regrown hg0
    have s1 := cell_regrown ((hX1.cell 1).trans rfl)
    have s2 := cell_regrown hc
    have hiz : (i : Int) < (L.length : Int) := by have := HI.out; omega
    have HB1 := Lib.hid (bt HB0.out hb1)
    clear hg0 hX1 hc hb1 hG1 e1 x0 x1
    have hw := HW.out
    go_upto_region 3 with (fail)
    refine wp_region_quiet_below (by kernel_rfl) (by kernel_rfl) ?_
    repeat (first | go_big_quiet_step (first | fail))
    refine wpQuiet_nil ?_
    intro _ hw'
    obtain ⟨⟨dq, osq⟩, hw''⟩ := hw'
    subst hw''
    have hbq := below_regrown w1 dq osq
    generalize grow (redrawn w1 dq) osq = w9 at *
    have HE := Lib.hid (bt HB1.out hbq)
    clear hbq s0 s1 s2 hw
    go_wp2
    go_ret
    exact ⟨rfl, HE.out⟩
end Go.Proofs.Ytignojhijmamhaa.Va
namespace Go.Proofs.Ytignojhijmamhaa.Va
open Go Go.RowKit Go.Sort
def Kc (C : List (List Int) → List Value) : Prop := ∀ L L', cellsL L' = cellsL L → C L' = C L
theorem k46 : Kc C46 := fun L L' h => by unfold C46; rw [h]
section
variable {T : TypeId} {C : List (List Int) → List Value} {w w' : World} {base g : Nat} {v : Value} {vs : List Value} {L : List (List Int)}
theorem Hp.at_ (h : Hp T C w base g v vs L) {i : Nat} (hi : i < L.length) {q : Nat} (hq : q < L[i].length) :
    ∃ b c r d, v = .slice (some ⟨b, 0, none⟩) L.length c ∧ b < w.heap.size ∧ vs[i]? = some (.slice (some ⟨r, 0, none⟩) L[i].length d) ∧ w.cell? ⟨b, i, none⟩ = some (.slice (some ⟨r, 0, none⟩) L[i].length d) ∧ r < w.heap.size ∧ w.cell? ⟨r, q, none⟩ = some (.int .i64 L[i][q]) ∧ w.frozen? ⟨r, q, none⟩ = false := by
  have hiv : i < vs.length := by rw [h.ar.len]; exact hi
  have ho := h.ar.own
  have hr := h.ar.row i hiv hi
  rcases ho.2 with ⟨_, e2⟩ | ⟨b, c, cur, e1, hb, hg, _⟩
  · omega
  · rcases hr.2 with ⟨e3, e4⟩ | ⟨r, d, cur2, e3, _, hg2, _⟩
    · omega
    · rw [e1] at ho
      have hc := ho.cellAt i (by omega)
      rw [List.getElem?_eq_getElem hiv, e3] at hc
      rw [e3] at hr
      refine ⟨b, c, r, d, e1, (Array.getElem?_eq_some_iff.1 hg).1, by rw [List.getElem?_eq_getElem hiv, e3], hc, (Array.getElem?_eq_some_iff.1 hg2).1, ?_, hr.frozenAt q⟩
      rw [hr.cellAt q (by omega)]
      exact ints_get hq
theorem own_set_self {base r n d : Nat} {xs : List Value} {w : World} (h : w.ownsRow base 3 1 (.slice (some ⟨r, 0, none⟩) n d) n xs) (q : Nat) (u : Value) : (w.setCell ⟨r, q, none⟩ u).ownsRow base 3 1 (.slice (some ⟨r, 0, none⟩) n d) n (xs.set q u) := (h.stored q u).1
theorem fr_set (F : Nat → Prop) (w : World) {p : Addr} (hp : F p.block) (u : Value) : Fr F w (w.setCell p u) :=
  ⟨rfl, rfl, rfl, by simp, fun b _ hn => Below.heap_setCell w p u b (fun e => hn (by rw [e]; exact hp))⟩
theorem Hp.set_ (h : Hp T C w base g v vs L) (hC : Kc C) (hT : T ≠ 3) {i : Nat} (hi : i < L.length) {q : Nat} {r d : Nat} (hv : vs[i]? = some (.slice (some ⟨r, 0, none⟩) L[i].length d)) (x : Int) :
    Hp T C (w.setCell ⟨r, q, none⟩ (.int .i64 x)) base g v vs (L.set i (L[i].set q x)) ∧ Fr (Fp g v vs) w (w.setCell ⟨r, q, none⟩ (.int .i64 x)) := by
  have hiv : i < vs.length := by rw [h.ar.len]; exact hi
  have hve : vs[i] = .slice (some ⟨r, 0, none⟩) L[i].length d := by rw [List.getElem?_eq_getElem hiv] at hv; exact Option.some.inj hv
  have hob : vs[i].ownBlock = some r := by rw [hve]; rfl
  have hrow := h.ar.row i hiv hi
  have hcell : cellsL (L.set i (L[i].set q x)) = cellsL L := cells_set _ _ _ fun _ => by rw [List.length_set]
  have F1 : Fr (fun b => b = r) w (w.setCell ⟨r, q, none⟩ (.int .i64 x)) := fr_set (fun b => b = r) w (p := ⟨r, q, none⟩) rfl _
  refine ⟨⟨?_, ⟨by rw [h.ar.len, List.length_set], ?_, ?_, h.ar.ne⟩, by rw [hcell]; exact h.cap, h.ge⟩, F1.mono fun b hb => .inr (.inr ⟨_, List.getElem_mem hiv, by rw [hb]; exact hob⟩)⟩
  · rw [hC _ _ hcell]
    exact h.bx.fr F1 (fun e => own_bx_ne hrow h.bx (fun e => hT e.symm) (by rw [e]; exact hob))
  · rw [List.length_set]
    exact own_fr h.ar.own F1 (fun b hb e => own_ne h.ar.own hrow (by decide) hb (by rw [e]; exact hob))
  · intro j hj hl
    have hl2 : j < L.length := by rw [← h.ar.len]; exact hj
    by_cases e : i = j
    · subst e
      rw [List.getElem_set_self, List.length_set]
      have h2 := own_set_self (show w.ownsRow base 3 1 (.slice (some ⟨r, 0, none⟩) L[i].length d) L[i].length (ints L[i]) by rw [← hve]; exact hrow) q (.int .i64 x)
      rw [hve, ← ints_set]
      exact h2
    · rw [List.getElem_set_ne e]
      exact own_fr (h.ar.row j hj hl2) F1 (fun b hb e2 => h.ar.ne j i hj hiv (fun e3 => e e3.symm) b hb (by rw [e2]; exact hob))
theorem Ars.more (h : Ars w base v vs L) {w2 : World} {l : List Int} {x v' : Value} (k : Fr (fun b => v.ownBlock = some b) w w2) (hx : w2.ownsRow base 3 1 x l.length (ints l)) (hnew : ∀ b, x.ownBlock = some b → w.heap.size ≤ b)
    (hown : w2.ownsRow base 25 1 v' (L.length + 1) (vs ++ [x])) : Ars w2 base v' (vs ++ [x]) (L ++ [l]) := by
  have hold : ∀ i (hi : i < vs.length), ∀ b, vs[i].ownBlock = some b → b < w.heap.size := fun i hi b hb => own_lt (h.row i hi (by rw [← h.len]; exact hi)) hb
  refine ⟨by simp [h.len], by rw [List.length_append]; exact hown, fun i hi hl => ?_, fun i j hi hj hne b hb => ?_⟩
  · by_cases e : i < vs.length
    · have hl2 : i < L.length := by rw [← h.len]; exact e
      rw [List.getElem_append_left e, List.getElem_append_left hl2]
      exact own_fr (h.row i e hl2) k (fun b hb hv => own_ne h.own (h.row i e hl2) (by decide) hv hb)
    · have e1 : i = vs.length := by rw [List.length_append] at hi; simp at hi; omega
      have e2 : i = L.length := by rw [e1, h.len]
      subst e1
      rw [List.getElem_append_right (Nat.le_refl _)]
      simp only [Nat.sub_self, List.getElem_cons_zero]
      rw [List.getElem_append_right (by omega)]
      simp only [h.len, Nat.sub_self, List.getElem_cons_zero]
      exact hx
  · by_cases ei : i < vs.length
    · rw [List.getElem_append_left ei] at hb
      by_cases ej : j < vs.length
      · rw [List.getElem_append_left ej]
        exact h.ne i j ei ej hne b hb
      · rw [List.getElem_append_right (by omega)]
        simp only [show j - vs.length = 0 by rw [List.length_append] at hj; simp at hj; omega, List.getElem_cons_zero]
        intro hx2
        have := hnew b hx2
        have := hold i ei b hb
        omega
    · rw [List.getElem_append_right (by omega)] at hb
      simp only [show i - vs.length = 0 by rw [List.length_append] at hi; simp at hi; omega, List.getElem_cons_zero] at hb
      have ej : j < vs.length := by rw [List.length_append] at hi hj; simp at hi hj; omega
      rw [List.getElem_append_left ej]
      intro hx2
      have := hnew b hb
      have := hold j ej b hx2
      omega
end
end Go.Proofs.Ytignojhijmamhaa.Va
