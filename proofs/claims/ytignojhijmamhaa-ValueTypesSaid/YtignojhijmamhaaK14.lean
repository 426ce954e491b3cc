/- PROVED here: parts TyCd TyCg TyCh of the claim. No condition but those in each theorem's own head. -/
import Derived.Test.YtignojhijmamhaaK13
import Derived.Lib.QuietBelow
import Derived.BigQuiet
import Derived.StillTailTactics
import Derived.Deep.Light
namespace Go.Proofs.Ytignojhijmamhaa.Ty
open Go Go.RowKit Go.Sort
open Tr (Bx heap1 bt Nds Ints VPost BPost)
section
variable {w : World} {l : List Tr.Nd} {A O : Option Addr} {n bd bp : Nat}
set_option maxRecDepth 100000 in
set_option maxHeartbeats 1500000 in
theorem variable_any (h : Prg w l A n O bd bp) (c co p : Nat) (hp : p < n) : Calls Try.prog 43 #[PrV A n c O co bd bp, .int .i64 (p : Int)] w (Tr.IPost (vrT l p) w) := by
  unfold PrV vrT
  have hb0 := heap1 w (.cells #[.slice A n c, .slice O n co, .map (some bd), .map (some bp)] 59)
  have xl : p < l.length := by rw [← h.len]; exact hp
  have xz : (p : Int) < (n : Int) := by omega
  obtain ⟨bA, off, K, cK, rfl, xt, x0, x1, x2, x3, x4, xI⟩ := node_at h.nds hb0 p xl
  rw [← ndA_eq xl] at x0 x1 x2 x3 x4 xI
  have hn := h.text _ (List.getElem_mem xl)
  rw [← ndA_eq xl] at hn
  have hX := Bx.new w 59 [.slice (some ⟨bA, off, none⟩) n c, .slice O n co, .map (some bd), .map (some bp)]
  obtain ⟨W0, hW0⟩ : ∃ W0, w.alloc (.cells #[.slice (some ⟨bA, off, none⟩) n c, .slice O n co, .map (some bd), .map (some bp)] 59) = W0 := ⟨_, rfl⟩
  rw [hW0] at hb0 hX x0 x1 x2 x3 x4
  have HB0 := Lib.hid hb0
  cases hd : dnA l p (ndA l p).tx with
  | none =>
    show Calls _ _ _ _ (Tr.IPost 0 w)
    have b0 := (hX.cell 0).trans rfl
    have b1 := (hX.cell 1).trans rfl
    have b2 := (hX.cell 2).trans rfl
    have b3 := (hX.cell 3).trans rfl
    have y3 := cell_regrown x3
    have d0 := cell_regrown b0
    have d1 := cell_regrown b1
    have d2 := cell_regrown b2
    have d3 := cell_regrown b3
    have cq : ∀ d os, Calls Try.prog 46 #[.agg #[.slice (some ⟨bA, off, none⟩) n c, .slice O n co, .map (some bd), .map (some bp)], .int .i64 (p : Int), .string (ndA l p).tx] (grow (redrawn W0 d) os) fun e w'' => e = .returned (.int .i64 (-1)) ∧ ∃ p : Regrown, w'' = grow (redrawn W0 p.d) p.os := fun d os => Calls.regrown_of (by
          have q := denoted_any (h.below (bt hb0 (below_regrown W0 d os))) c co p hp (ndA l p).tx hn
          rw [hd] at q
          exact q)
    clear h hd hn xI x0 x1 x2 x3 x4 hp xl
    generalize (ndA l (p : Int)).tx = tx at *
    go_enter Try.func43, Try.ntmps43
    go_wp2
    refine wp_region_quiet_below (by kernel_rfl) (by kernel_rfl) ?_
    repeat (go_big_quiet_step (first | exact cq _ _))
    refine wpQuiet_nil ?_
    intro _ hw'
    obtain ⟨⟨dq, osq⟩, hw''⟩ := hw'
    subst hw''
    have hbq := below_regrown W0 dq osq
    generalize grow (redrawn W0 dq) osq = w1 at *
    have HBQ := Lib.hid hbq
    clear cq hbq
    go_wp2
    go_ret
    exact ⟨rfl, bt HB0.out HBQ.out⟩
  | some q =>
    show Calls _ _ _ _ (Tr.IPost (ndA l (q : Int)).n w)
    have hq : q < n := by rw [h.len]; exact (dnA_lt hd).1
    have ul : q < l.length := by rw [← h.len]; exact hq
    have uz : (q : Int) < (n : Int) := by omega
    obtain ⟨bBu, offu, K2, cK2, eu, ut, u0, u1, u2, u3, u4, uI⟩ := node_at h.nds hb0 q ul
    cases eu
    rw [← ndA_eq ul] at u0 u1 u2 u3 u4 uI
    have HX := Lib.hid hX
    have HU := Lib.hid (And.intro ut u1)
    have hqe : ((q : Int) == -1) = false := beq_eq_false_iff_ne.2 (by omega)
    have b0 := (hX.cell 0).trans rfl
    have b1 := (hX.cell 1).trans rfl
    have b2 := (hX.cell 2).trans rfl
    have b3 := (hX.cell 3).trans rfl
    have y3 := cell_regrown x3
    have d0 := cell_regrown b0
    have d1 := cell_regrown b1
    have d2 := cell_regrown b2
    have d3 := cell_regrown b3
    have cq : ∀ d os, Calls Try.prog 46 #[.agg #[.slice (some ⟨bA, off, none⟩) n c, .slice O n co, .map (some bd), .map (some bp)], .int .i64 (p : Int), .string (ndA l p).tx] (grow (redrawn W0 d) os) fun e w'' => e = .returned (.int .i64 (q : Int)) ∧ ∃ p : Regrown, w'' = grow (redrawn W0 p.d) p.os := fun d os => Calls.regrown_of (by
          have q := denoted_any (h.below (bt hb0 (below_regrown W0 d os))) c co p hp (ndA l p).tx hn
          rw [hd] at q
          exact q)
    clear h hd hn xI x0 x1 x2 x3 x4 hp xl
    generalize (ndA l (p : Int)).tx = tx at *
    clear u0 u1 u2 u3 u4 uI ul hq ut
    generalize (ndA l (q : Int)).n = m at *
    go_enter Try.func43, Try.ntmps43
    go_wp2
    refine wp_region_quiet_below (by kernel_rfl) (by kernel_rfl) ?_
    repeat (go_big_quiet_step (first | exact cq _ _))
    refine wpQuiet_nil ?_
    intro _ hw'
    obtain ⟨⟨dq, osq⟩, hw''⟩ := hw'
    subst hw''
    have hbq := below_regrown W0 dq osq
    generalize grow (redrawn W0 dq) osq = w1 at *
    have HBQ := Lib.hid hbq
    have hX1 := HX.out.below hbq HX.out.lt
    have g0 := (hX1.cell 0).trans rfl
    have g1 := (hbq.cell (p := ⟨bA, off + q * 5 + 1, none⟩) HU.out.1).trans HU.out.2
    clear cq hbq hX1 y3 d0 d1 d2 d3
    go_wp2
    go_ret
    exact ⟨rfl, bt HB0.out HBQ.out⟩
end
end Go.Proofs.Ytignojhijmamhaa.Ty
namespace Go.Proofs.Ytignojhijmamhaa.Ty
open Go Go.RowKit
open Tr (Bx heap1 bt Nds Ints VPost BPost)
section
variable {w : World} {l : List Tr.Nd} {A O : Option Addr} {n bd bp : Nat}
set_option maxRecDepth 100000 in
set_option maxHeartbeats 1500000 in
theorem typeE_any (h : Prg w l A n O bd bp) (c co p : Nat) (hp : p < n) : Calls Try.prog 23 #[PrV A n c O co bd bp, .int .i64 (p : Int)] w (Tr.IPost (typA l p) w) := by
  unfold PrV
  have hb0 := heap1 w (.cells #[.slice A n c, .slice O n co, .map (some bd), .map (some bp)] 59)
  have xl : p < l.length := by rw [← h.len]; exact hp
  have xz : (p : Int) < (n : Int) := by omega
  obtain ⟨bA, off, K, cK, rfl, xt, x0, x1, x2, x3, x4, xI⟩ := node_at h.nds hb0 p xl
  rw [← ndA_eq xl] at x0 x1 x2 x3 x4 xI
  have hb1 := bt hb0 (heap1 (w.alloc (.cells #[.slice (some ⟨bA, off, none⟩) n c, .slice O n co, .map (some bd), .map (some bp)] 59)) (.cells #[.int .i64 (ndA l p).kd, .int .i64 (ndA l p).n, .int .i64 (ndA l p).pl, .string (ndA l p).tx, .slice K (ndA l p).ks.length cK] 55))
  have HB1 := Lib.hid hb1
  have HV := Lib.hid (variable_any (h.below hb1) c co p hp)
  unfold PrV at HV
  have HS := Lib.hid (signType_any (ndA l p).tx ((w.alloc (.cells #[.slice (some ⟨bA, off, none⟩) n c, .slice O n co, .map (some bd), .map (some bp)] 59)).alloc (.cells #[.int .i64 (ndA l p).kd, .int .i64 (ndA l p).n, .int .i64 (ndA l p).pl, .string (ndA l p).tx, .slice K (ndA l p).ks.length cK] 55)))
  clear h hb0 hb1 xI hp xl
  unfold typA
  generalize (ndA l (p : Int)).kd = k at *
  generalize (ndA l (p : Int)).tx = tx at *
  generalize (ndA l (p : Int)).n = nn at *
  generalize (ndA l (p : Int)).pl = pl at *
  generalize (ndA l (p : Int)).ks.length = m at *
  generalize vrT l p = vt at *
  by_cases k20 : k = 20
  · subst k20
    rw [if_pos (by decide)]
    clear HV HS
    go_enter Try.func23, Try.ntmps23
    go_wp2
    go_ret
    exact ⟨rfl, HB1.out⟩
  have f20 : (k == 20) = false := beq_eq_false_iff_ne.2 k20
  by_cases k23 : k = 23
  · subst k23
    rw [if_pos (by decide)]
    clear HV HS
    go_enter Try.func23, Try.ntmps23
    go_wp2
    go_ret
    exact ⟨rfl, HB1.out⟩
  have f23 : (k == 23) = false := beq_eq_false_iff_ne.2 k23
  by_cases k24 : k = 24
  · subst k24
    rw [if_pos (by decide)]
    clear HV HS
    go_enter Try.func23, Try.ntmps23
    go_wp2
    go_ret
    exact ⟨rfl, HB1.out⟩
  have f24 : (k == 24) = false := beq_eq_false_iff_ne.2 k24
  rw [if_neg (by omega)]
  by_cases k21 : k = 21
  · subst k21
    rw [if_pos rfl]
    clear HV HS
    go_enter Try.func23, Try.ntmps23
    go_wp2
    go_ret
    exact ⟨rfl, HB1.out⟩
  have f21 : (k == 21) = false := beq_eq_false_iff_ne.2 k21
  rw [if_neg (by omega)]
  by_cases k22 : k = 22
  · subst k22
    rw [if_pos rfl]
    clear HS
    go_enter Try.func23, Try.ntmps23
    go_wp2_with (go_at_call 43; refine HV.out.mono ?_)
    rintro e w2 ⟨rfl, hb2⟩
    have HB2 := Lib.hid (bt HB1.out hb2)
    clear hb2
    go_wp2
    go_ret
    exact ⟨rfl, HB2.out⟩
  have f22 : (k == 22) = false := beq_eq_false_iff_ne.2 k22
  rw [if_neg (by omega)]
  by_cases k25 : k = 25
  · subst k25
    rw [if_pos rfl]
    clear HV HS
    go_enter Try.func23, Try.ntmps23
    go_wp2
    go_ret
    exact ⟨rfl, HB1.out⟩
  have f25 : (k == 25) = false := beq_eq_false_iff_ne.2 k25
  rw [if_neg (by omega)]
  by_cases k26 : k = 26
  · subst k26
    rw [if_pos (by decide)]
    clear HV
    generalize sgnT tx = st at *
    go_enter Try.func23, Try.ntmps23
    go_wp2_with (go_at_call 44; refine HS.out.mono ?_)
    rintro e w2 ⟨rfl, hb2⟩
    have HB2 := Lib.hid (bt HB1.out hb2)
    clear hb2
    go_wp2
    go_ret
    exact ⟨rfl, HB2.out⟩
  have f26 : (k == 26) = false := beq_eq_false_iff_ne.2 k26
  by_cases k27 : k = 27
  · subst k27
    rw [if_pos (by decide)]
    clear HV
    generalize sgnT tx = st at *
    go_enter Try.func23, Try.ntmps23
    go_wp2_with (go_at_call 44; refine HS.out.mono ?_)
    rintro e w2 ⟨rfl, hb2⟩
    have HB2 := Lib.hid (bt HB1.out hb2)
    clear hb2
    go_wp2
    go_ret
    exact ⟨rfl, HB2.out⟩
  have f27 : (k == 27) = false := beq_eq_false_iff_ne.2 k27
  rw [if_neg (by omega)]
  clear HV HS k20 k23 k24 k21 k22 k25 k26 k27
  go_enter Try.func23, Try.ntmps23
  go_wp2
  go_ret
  exact ⟨rfl, HB1.out⟩
end
end Go.Proofs.Ytignojhijmamhaa.Ty
namespace Go.Proofs.Ytignojhijmamhaa.Ty
open Go Go.RowKit
open Tr (Bx heap1 bt Nds Ints VPost BPost Ib mkI make22)
section
variable {w : World} {l : List Tr.Nd} {A O : Option Addr} {n bd bp : Nat}
set_option maxRecDepth 100000 in
set_option maxHeartbeats 1500000 in
theorem areAll_any (h : Prg w l A n O bd bp) (c co : Nat) (K : Option Addr) (m cK : Nat) (ks : List Int) (t : Int) (hK : Ints w K ks) (hm : m = ks.length) (hks : ∀ x ∈ ks, 0 ≤ x ∧ x < (n : Int)) (hml : m ≤ 4000) : Calls Try.prog 56 #[PrV A n c O co bd bp, .slice K m cK, .int .i64 t] w (BPost (areB l ks t) w) := by
  unfold PrV
  have hb0 := heap1 w (.cells #[.slice A n c, .slice O n co, .map (some bd), .map (some bp)] 59)
  have hX := Bx.new w 59 [.slice A n c, .slice O n co, .map (some bd), .map (some bp)]
  obtain ⟨W0, hW0⟩ : ∃ W0, w.alloc (.cells #[.slice A n c, .slice O n co, .map (some bd), .map (some bp)] 59) = W0 := ⟨_, rfl⟩
  rw [hW0] at hb0 hX
  have HX := Lib.hid (And.intro hb0 hX)
  have HK := Lib.hid hK
  have HM := Lib.hid (And.intro hm hks)
  have HT := Lib.hid (fun W (hb : Below W0.heap.size W0 W) (k : Nat) (hk : k < n) => typeE_any (h.below (bt hb0 hb)) c co k hk)
  unfold PrV at HT
  clear h hK hm hks hb0 hX
  go_enter Try.func56, Try.ntmps56
  go_wp2
  try rw [hW0]
  clear hW0
  go_loopg [11] m (fun g a11 wr => ∃ i : Nat, a11 = .int .i64 (i : Int) ∧ i ≤ m ∧ g = m - i ∧ (ks.take i).all (fun k => decide (typA l k.toNat = t)) = true ∧ Below W0.heap.size W0 wr)
  case atStart => exact ⟨0, rfl, Nat.zero_le _, rfl, rfl, Below.refl _ _⟩
  case round =>
    obtain ⟨i, rfl, hi, rfl, ht, hb⟩ := hrel
    have HB := Lib.hid hb
    have HE := Lib.hid ht
    by_cases hlt : i < m
    · have hlz : (i : Int) < (m : Int) := by omega
      have hik : i < ks.length := by rw [← HM.out.1]; exact hlt
      obtain ⟨bK, oK, rfl, lK, cK⟩ := HK.out (by omega)
      obtain ⟨hk0, hk1⟩ := HM.out.2 _ (List.getElem_mem hik)
      obtain ⟨k, hk⟩ : ∃ k : Nat, ks[i] = (k : Int) := ⟨ks[i].toNat, by omega⟩
      have ck : wr.cell? ⟨bK, oK + i, none⟩ = some (.int .i64 (k : Int)) := ((bt HX.out.1 hb).cell (p := ⟨bK, oK + i, none⟩) lK).trans (by rw [cK i hik, hk])
      have hkn : k < n := by omega
      have hB := HX.out.2.below hb HX.out.2.lt
      have b0 := (hB.cell 0).trans rfl
      have b1 := (hB.cell 1).trans rfl
      have b2 := (hB.cell 2).trans rfl
      have b3 := (hB.cell 3).trans rfl
      have HC := Lib.hid (HT.out wr hb k hkn)
      have HS := Lib.hid (show (ks.take (i + 1)).all (fun k => decide (typA l k.toNat = t)) = decide (typA l k = t) by
        rw [List.take_succ_eq_append_getElem hik, List.all_append, ht, hk]; simp)
      have HF := Lib.hid (show typA l k ≠ t → areB l ks t = false from fun e => by
        unfold areB
        rw [Bool.eq_false_iff]
        intro h1
        have := List.all_eq_true.1 h1 _ (List.getElem_mem hik)
        rw [hk] at this
        simp [e] at this)
      clear cK lK hk hb ht hB hk0 hk1 hkn hik
      generalize typA l k = ty at *
      by_cases e : ty = t
      · have hne : (ty != t) = false := by simp [e]
        have HR := Lib.hid (show (ks.take (i + 1)).all (fun k => decide (typA l k.toNat = t)) = true by rw [HS.out, e]; simp)
        clear HS HF e
        go_wp2_with (go_at_call 23; refine HC.out.mono ?_)
        rintro e w2 ⟨rfl, hb2⟩
        have HB2 := Lib.hid (bt HB.out hb2)
        clear hb2
        go_wp2
        go_roundg (m - (i + 1))
        case measure => go_light; omega
        case rel =>
          go_light
          exact ⟨i + 1, by go_num, by omega, rfl, HR.out, HB2.out⟩
      · have hne : (ty != t) = true := by simp [e]
        have HR := Lib.hid (HF.out e)
        clear HS HF e
        go_wp2_with (go_at_call 23; refine HC.out.mono ?_)
        rintro e w2 ⟨rfl, hb2⟩
        have HB2 := Lib.hid (bt HB.out hb2)
        clear hb2
        go_wp2
        go_ret
        exact ⟨congrArg (fun z => Ending.returned (Value.bool z)) HR.out.symm, bt HX.out.1 HB2.out⟩
    · have hlz : ¬ (i : Int) < (m : Int) := by omega
      have HR := Lib.hid (show areB l ks t = true by
        have h1 := HE.out
        rw [List.take_of_length_le (by have := HM.out.1; omega)] at h1
        exact h1)
      clear hi hlt hb ht
      go_wp2
      go_ret
      exact ⟨congrArg (fun z => Ending.returned (Value.bool z)) HR.out.symm, bt HX.out.1 HB.out⟩
def SlPost (xs : List Int) (w : World) (e : Ending) (w' : World) : Prop := ∃ K c, e = .returned (.slice K xs.length c) ∧ Ints w' K xs ∧ Below w.heap.size w w'
set_option maxRecDepth 100000 in
set_option maxHeartbeats 1500000 in
theorem typesOf_any (h : Prg w l A n O bd bp) (c co : Nat) (K : Option Addr) (m cK : Nat) (ks : List Int) (hK : Ints w K ks) (hm : m = ks.length) (hks : ∀ x ∈ ks, 0 ≤ x ∧ x < (n : Int)) (hml : m ≤ 4000) : Calls Try.prog 70 #[PrV A n c O co bd bp, .slice K m cK] w (SlPost (ks.map fun k => typA l k.toNat) w) := by
  unfold PrV
  have hb0 := heap1 w (.cells #[.slice A n c, .slice O n co, .map (some bd), .map (some bp)] 59)
  have hX := Bx.new w 59 [.slice A n c, .slice O n co, .map (some bd), .map (some bp)]
  obtain ⟨W0, hW0⟩ : ∃ W0, w.alloc (.cells #[.slice A n c, .slice O n co, .map (some bd), .map (some bp)] 59) = W0 := ⟨_, rfl⟩
  rw [hW0] at hb0 hX
  have hs0 : W0.heap.size = w.heap.size + 1 := by rw [← hW0, World.size_alloc]
  have hI : Ib (W0.alloc (.cells (mkI m fun _ => 0) 3)) W0.heap.size m (fun _ => 0) := World.alloc_heap_new W0 _
  rw [hs0] at hI
  have hI0 : Below W0.heap.size W0 (W0.alloc (.cells (mkI m fun _ => 0) 3)) := heap1 _ _
  have HX := Lib.hid (And.intro hb0 hX)
  have HI0 := Lib.hid (And.intro hI hI0)
  have HK := Lib.hid hK
  have HM := Lib.hid (And.intro hm hks)
  have HT := Lib.hid (fun W (hb : Below W0.heap.size W0 W) (k : Nat) (hk : k < n) => typeE_any (h.below (bt hb0 hb)) c co k hk)
  unfold PrV at HT
  have hmk := fun w' => make22 m (by omega) w'
  clear h hK hm hks hb0 hX hI hI0
  go_enter Try.func70, Try.ntmps70
  go_wp2
  try rw [hW0]
  clear hW0
  go_loopg [13] m (fun g a13 wr => ∃ (i : Nat) (f : Nat → Int), a13 = .int .i64 (i : Int) ∧ i ≤ m ∧ g = m - i ∧ Ib wr (w.heap.size + 1) m f ∧ (∀ j (hj : j < ks.length), j < i → f j = typA l (ks[j]).toNat) ∧ Below W0.heap.size W0 wr)
  case atStart => exact ⟨0, _, rfl, Nat.zero_le _, rfl, HI0.out.1, fun j _ h => absurd h (Nat.not_lt_zero _), HI0.out.2⟩
  case round =>
    obtain ⟨i, f, rfl, hi, rfl, hIb, hf, hb⟩ := hrel
    have HB := Lib.hid hb
    have HIB := Lib.hid hIb
    have HF := Lib.hid hf
    by_cases hlt : i < m
    · have hlz : (i : Int) < (m : Int) := by omega
      have hik : i < ks.length := by rw [← HM.out.1]; exact hlt
      obtain ⟨bK, oK, rfl, lK, cK⟩ := HK.out (by omega)
      obtain ⟨hk0, hk1⟩ := HM.out.2 _ (List.getElem_mem hik)
      obtain ⟨k, hk⟩ : ∃ k : Nat, ks[i] = (k : Int) := ⟨ks[i].toNat, by omega⟩
      have ck : wr.cell? ⟨bK, oK + i, none⟩ = some (.int .i64 (k : Int)) := ((bt HX.out.1 hb).cell (p := ⟨bK, oK + i, none⟩) lK).trans (by rw [cK i hik, hk])
      have hkn : k < n := by omega
      have hB := HX.out.2.below hb HX.out.2.lt
      have b0 := (hB.cell 0).trans rfl
      have b1 := (hB.cell 1).trans rfl
      have b2 := (hB.cell 2).trans rfl
      have b3 := (hB.cell 3).trans rfl
      have HC := Lib.hid (HT.out wr hb k hkn)
      have HG := Lib.hid (show ∀ j (hj : j < ks.length), j < i + 1 → (if j = i then typA l k else f j) = typA l (ks[j]).toNat from fun j hj h1 => by
        by_cases e : j = i
        · subst e; rw [if_pos rfl, hk]; rfl
        · rw [if_neg e]; exact hf j hj (by omega))
      clear cK lK hk hb hf hB hk0 hk1 hkn hik hIb HF
      generalize typA l k = ty at *
      go_wp2_with (go_at_call 23; refine HC.out.mono ?_)
      rintro e w2 ⟨rfl, hb2⟩
      have hI2 := HIB.out.below hb2 HIB.out.lt
      have j0 := hI2.cell hlt
      have j1 := hI2.frozen i
      have HB2 := Lib.hid (And.intro (bt HB.out hb2) hI2)
      clear hb2 hI2
      go_wp2
      go_roundg (m - (i + 1))
      case measure => go_light; omega
      case rel =>
        go_light
        exact ⟨i + 1, _, by go_num, by omega, rfl, HB2.out.2.set_ i ty, HG.out, HB2.out.1.setCell (p := ⟨w.heap.size + 1, i, none⟩) (by show W0.heap.size ≤ w.heap.size + 1; omega) _⟩
    · have hlz : ¬ (i : Int) < (m : Int) := by omega
      have HR := Lib.hid (show Ints wr (some ⟨w.heap.size + 1, 0, none⟩) (ks.map fun k => typA l k.toNat) from fun _ => ⟨_, 0, rfl, hIb.lt, fun j hj => by
        have hj2 : j < ks.length := by simpa using hj
        rw [Nat.zero_add, hIb.cell (by have := HM.out.1; omega), hf j hj2 (by have := HM.out.1; omega)]; simp⟩)
      have hml2 : m = (ks.map fun k => typA l k.toNat).length := by rw [List.length_map]; exact HM.out.1
      have HL := Lib.hid hml2
      clear hi hlt hb hf hIb hml2
      go_wp2
      go_ret
      exact ⟨some ⟨w.heap.size + 1, 0, none⟩, m, by rw [← HL.out]; try rfl, HR.out, bt HX.out.1 HB.out⟩
end
end Go.Proofs.Ytignojhijmamhaa.Ty
