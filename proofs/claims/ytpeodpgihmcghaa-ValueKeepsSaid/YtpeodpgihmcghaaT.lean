/- PROVED here: a copy of a heap, rows compared. No condition but those in each theorem's own head. -/
import Derived.Test.YtpeodpgihmcghaaS
namespace Go.Proofs.Ytpeodpgihmcghaa
open Go Go.RowKit Go.Sort

def CopyP (L : List (List Int)) (w : World) (e : Ending) (w' : World) : Prop := ∃ g v vs, e = .returned (.pointer (some ⟨g, 0, none⟩)) ∧ Hp 46 C46 w' w.heap.size g v vs L ∧ Below w.heap.size w w'
set_option maxRecDepth 100000 in
set_option maxHeartbeats 1000000 in
theorem copy_any {w : World} {base g : Nat} {v : Value} {vs : List Value} {L : List (List Int)} (h : Hp 46 C46 w base g v vs L) : Calls Try.prog 22 #[.pointer (some ⟨g, 0, none⟩)] w (CopyP L w) := by
  have HH := Lib.hid h
  have HC := Lib.hid (arrays_any h)
  have HL := Lib.hid (fun W a n (q : W.cell? a = some (.int .i64 n)) => aload_any a n W q)
  have HS := Lib.hid (fun W a x d (q : W.cell? a = some x) (q2 : W.frozen? a = false) => astore_any a x d W q q2)
  clear h
  go_enter Try.func22, Try.ntmps22
  go_wp2_with (go_at_call 21; refine HC.out.mono ?_)
  rintro e w1 ⟨A, c, ws, rfl, hA, hb1⟩
  have hX := Bx.new w1 46 [.slice A L.length c, .int .i64 0]
  have hG := (HH.out.below hb1).bx.alloc (.cells #[.slice A L.length c, .int .i64 0] 46)
  have hA2 := hA.fr (F := fun _ => False) (Fr.of_below (heap1 w1 (.cells #[.slice A L.length c, .int .i64 0] 46))) 0 (fun _ _ => id)
  have hb2 := hb1.alloc hb1.size (.cells #[.slice A L.length c, .int .i64 0] 46)
  have hsz := hb1.size
  go_upto_region 2 with (fail)
  obtain ⟨V, hV⟩ : ∃ V, w1.alloc (.cells #[.slice A L.length c, .int .i64 0] 46) = V := ⟨_, rfl⟩
  rw [show (w1.alloc (.cells [Value.slice A L.length c, .int .i64 0].toArray 46)) = V from hV] at hX
  rw [hV] at hG hA2 hb2 ⊢
  generalize w1.heap.size = gc at *
  have c1 : V.drew.cell? ⟨g, 1, none⟩ = some (.int .i64 (cellsL L)) := (hG.cell 1).trans rfl
  have x1 : V.drew.cell? ⟨gc, 1, none⟩ = some (.int .i64 0) := (hX.cell 1).trans rfl
  have f1 : V.drew.frozen? ⟨gc, 1, none⟩ = false := hX.frozen 1
  have F : Fr (fun b => b = gc) V (V.setCell ⟨gc, 1, none⟩ (.int .i64 (cellsL L))) := fr_set (fun b => b = gc) V (p := ⟨gc, 1, none⟩) rfl _
  have hfin : Hp 46 C46 (V.drew.setCell ⟨gc, 1, none⟩ (.int .i64 (cellsL L))) w.heap.size gc (.slice A L.length c) ws L := by
    have hA3 := hA2.fr2 F (fun b hb e => by subst e; exact own_bx_ne hA2.own hX (by decide) hb) (fun x hx b hb e => by
      subst e
      obtain ⟨i, hi, rfl⟩ := List.mem_iff_getElem.1 hx
      exact own_bx_ne (hA2.row i hi (by rw [← hA2.len]; exact hi)) hX (by decide) hb)
    exact ⟨hX.set_ 1 _, ⟨hA3.len, hA3.own, hA3.row, hA3.ne⟩, HH.out.cap, hsz⟩
  have HF := Lib.hid (And.intro hfin (show Below w.heap.size w (V.drew.setCell ⟨gc, 1, none⟩ (.int .i64 (cellsL L))) from hb2.drew.setCell (p := ⟨gc, 1, none⟩) hsz _))
  clear hX hG hA2 hA hb1 hb2 hsz F hfin hV
  go_region_held3 (fun _ => True) (trivial) (first | (go_at_call 38; refine (HL.out _ _ _ c1).mono ?_; rintro e w' ⟨rfl, rfl⟩) | (go_at_call 42; refine (HS.out _ _ _ _ x1 f1).mono ?_; rintro e w' ⟨rfl, rfl⟩))
  go_wp2
  go_ret
  exact ⟨gc, _, _, rfl, HF.out.1, HF.out.2⟩
/-- an array among arrays in memory -/
theorem Ars.get {w : World} {base n c : Nat} {A : Option Addr} {vs : List Value} {L : List (List Int)} (h : Ars w base (.slice A n c) vs L) {i : Nat} (hi : i < L.length) : ∃ b, A = some ⟨b, 0, none⟩ ∧ b < w.heap.size ∧ ∃ R d, w.cell? ⟨b, i, none⟩ = some (.slice R L[i].length d) ∧ ∀ j (hj : j < L[i].length), ∃ r, R = some ⟨r, 0, none⟩ ∧ r < w.heap.size ∧ w.cell? ⟨r, j, none⟩ = some (.int .i64 L[i][j]) := by
  have hiv : i < vs.length := by rw [h.len]; exact hi
  have ho := h.own
  have hr := h.row i hiv hi
  rcases ho.2 with ⟨_, e2⟩ | ⟨b, c2, cur, e1, hb, hg, _⟩
  · omega
  · have hA : A = some ⟨b, 0, none⟩ := by injection e1
    refine ⟨b, hA, (Array.getElem?_eq_some_iff.1 hg).1, ?_⟩
    rw [e1] at ho
    have hc := ho.cellAt i (by omega)
    rw [List.getElem?_eq_getElem hiv] at hc
    rcases hr.2 with ⟨e3, e4⟩ | ⟨r, d, cur2, e3, _, hg2, _⟩
    · exact ⟨none, 0, by rw [hc, e3, e4], fun j hj => by omega⟩
    · refine ⟨some ⟨r, 0, none⟩, d, by rw [hc, e3], fun j hj => ⟨r, rfl, (Array.getElem?_eq_some_iff.1 hg2).1, ?_⟩⟩
      rw [e3] at hr
      rw [hr.cellAt j (by omega)]
      exact ints_get hj
theorem Ars.below {w w' : World} {base : Nat} {v : Value} {vs : List Value} {L : List (List Int)} (h : Ars w base v vs L) (hb : Below w.heap.size w w') : Ars w' base v vs L := h.fr (F := fun _ => False) (Fr.of_below hb) 0 (fun _ _ => id)
set_option maxRecDepth 100000 in
set_option maxHeartbeats 2000000 in
theorem same_any {w : World} {b1 b2 m c1 c2 : Nat} {A1 A2 : Option Addr} {vs1 vs2 : List Value} {L : List (List Int)} (h1 : Ars w b1 (.slice A1 m c1) vs1 L) (h2 : Ars w b2 (.slice A2 m c2) vs2 L) (hm : m = L.length) (hcap : cellsL L ≤ 262144) : Calls Try.prog 20 #[.slice A1 m c1, .slice A2 m c2] w (BP true w) := by
  have H1 := Lib.hid h1
  have H2 := Lib.hid h2
  have HM := Lib.hid hm
  have HCP := Lib.hid hcap
  have hfew : m ≤ 262144 := by have := cells_ge L; omega
  have hmm : ((m : Int) != (m : Int)) = false := by simp
  clear h1 h2 hm hcap
  go_enter Try.func20, Try.ntmps20
  go_wp2
  clear hmm
  go_loopw [5] (fun i wr => ∃ k : Nat, k ≤ m ∧ i = .int .i64 (k : Int) ∧ Below w.heap.size w wr) (fun i _ => m - (intOf i).toNat)
  case atStart => exact ⟨0, Nat.zero_le _, rfl, Below.refl _ _⟩
  case round =>
    obtain ⟨k, hk, rfl, hb⟩ := hrel
    obtain ⟨W1, rfl⟩ : ∃ W1, W1 = wr := ⟨_, rfl⟩
    by_cases hlt : k < m
    · have hkz : (k : Int) < (m : Int) := by omega
      have hkl : k < L.length := by rw [← HM.out]; exact hlt
      have HR := Lib.hid (cells_row hkl)
      obtain ⟨p1, e1, hp1, R1, d1, hc1, hr1⟩ := (H1.out.below hb).get hkl
      obtain ⟨p2, e2, hp2, R2, d2, hc2, hr2⟩ := (H2.out.below hb).get hkl
      generalize L[k] = l at *
      subst e1 e2
      obtain ⟨q, hq⟩ : ∃ q, l.length = q := ⟨_, rfl⟩
      have hqb : q ≤ 262144 := by have := HR.out; have := HCP.out; omega
      rw [hq] at hc1 hc2
      have HQ := Lib.hid hq
      have HR1 := Lib.hid (And.intro hc1 hr1)
      have HR2 := Lib.hid (And.intro hc2 hr2)
      have HB := Lib.hid hb
      have HLT := Lib.hid hlt
      have s0 := cell_regrown hc1
      have s1 := cell_regrown hc2
      have hqq : ((q : Int) != (q : Int)) = false := by simp
      clear hc1 hc2 hr1 hr2 hb hq hk
      go_upto_region 6 with (fail)
      refine wp_region_quiet_below (by kernel_rfl) (by kernel_rfl) ?_
      repeat (first | go_big_quiet_step (first | fail))
      refine wpQuiet_nil ?_
      intro _ hw'
      obtain ⟨⟨dq, osq⟩, hw''⟩ := hw'
      subst hw''
      have hbq := below_regrown W1 dq osq
      generalize grow (redrawn W1 dq) osq = W2 at *
      have HB2 := Lib.hid hbq
      clear hbq s0 s1 hqq
      go_wp2
      go_loopw [6] (fun i wr => ∃ j : Nat, j ≤ q ∧ i = .int .i64 (j : Int) ∧ Below W1.heap.size W1 wr) (fun i _ => q - (intOf i).toNat)
      case atStart => exact ⟨0, Nat.zero_le _, rfl, HB2.out⟩
      case round =>
        obtain ⟨j, hj, rfl, hb3⟩ := hrel
        obtain ⟨W3, rfl⟩ : ∃ W3, W3 = wr := ⟨_, rfl⟩
        have c1' := (hb3.cell (p := ⟨p1, k, none⟩) hp1).trans HR1.out.1
        by_cases hjt : j < q
        · have hjz : (j : Int) < (q : Int) := by omega
          have hjl : j < l.length := by rw [HQ.out]; exact hjt
          obtain ⟨r1, e1, hl1, x1⟩ := HR1.out.2 j hjl
          obtain ⟨r2, e2, hl2, x2⟩ := HR2.out.2 j hjl
          subst e1 e2
          have c2' := (hb3.cell (p := ⟨p2, k, none⟩) hp2).trans HR2.out.1
          have x1' := (hb3.cell (p := ⟨r1, j, none⟩) hl1).trans x1
          have x2' := (hb3.cell (p := ⟨r2, j, none⟩) hl2).trans x2
          have HJ := Lib.hid hjt
          have HB3 := Lib.hid hb3
          generalize l[j] = z at *
          have hzz : (z != z) = false := by simp
          have s0 := cell_regrown c1'
          have s1 := cell_regrown c2'
          have s2 := cell_regrown x1'
          have s3 := cell_regrown x2'
          clear c2' x1' x2' x1 x2 hb3 hj
          go_upto_region 11 with (fail)
          refine wp_region_quiet_below (by kernel_rfl) (by kernel_rfl) ?_
          repeat (first | go_big_quiet_step (first | fail))
          refine wpQuiet_nil ?_
          intro _ hw'
          obtain ⟨⟨dq, osq⟩, hw''⟩ := hw'
          subst hw''
          have hbq := below_regrown W3 dq osq
          generalize grow (redrawn W3 dq) osq = W4 at *
          have HB4 := Lib.hid (bt HB3.out hbq)
          clear hbq s0 s1 s2 s3 hzz c1'
          go_wp2
          go_roundw
          case rel => exact ⟨j + 1, by have := HJ.out; omega, by go_num, HB4.out⟩
          case measure => have := HJ.out; simp [intOf]; omega
        · obtain rfl : j = q := by omega
          have hjz : ¬ (j : Int) < (j : Int) := by omega
          have HB3 := Lib.hid (bt HB.out hb3)
          clear hb3
          go_wp2
          go_roundw
          case rel => exact ⟨k + 1, by have := HLT.out; omega, by go_num, HB3.out⟩
          case measure => have := HLT.out; simp [intOf]; omega
    · obtain rfl : k = m := by omega
      have hkz : ¬ (k : Int) < (k : Int) := by omega
      have HB := Lib.hid hb
      clear hb
      go_wp2
      go_ret
      exact ⟨rfl, HB.out⟩
end Go.Proofs.Ytpeodpgihmcghaa
