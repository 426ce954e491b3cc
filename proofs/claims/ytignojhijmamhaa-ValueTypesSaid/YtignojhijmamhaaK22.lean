/- PROVED here: parts TyCl of the claim. No condition but those in each theorem's own head. -/
import Derived.Test.YtignojhijmamhaaK21
namespace Go.Proofs.Ytignojhijmamhaa.Ty
open Go Go.RowKit Go.Sort
open Tr (Bx heap1 bt Nds Ints VPost BPost)
theorem optZ_none (o : Option Nat) : (optZ o == -1) = o.isNone := by
  cases o with
  | none => rfl
  | some q => show ((q : Int) == -1) = false; exact beq_eq_false_iff_ne.2 (by omega)
theorem prF_self {l : List Tr.Nd} {p : Nat} (hp : p < l.length) (h : (ndA l p).kd = 3) : ∃ q, prF l (ndA l p).tx 0 = some q := by
  obtain ⟨r, h1, _⟩ := fstA_mem (P := prB l (ndA l p).tx) (p := 0) (Nat.zero_le p) hp (by unfold prB; simp [h])
  exact ⟨r, h1⟩
theorem dcF_self {l : List Tr.Nd} {p : Nat} (hp : p < l.length) (h : decB (ndA l p).kd = true) : ∃ q, dcF l (owA l p) (ndA l p).tx 0 = some q := by
  obtain ⟨r, h1, _⟩ := fstA_mem (P := dcB l (owA l p) (ndA l p).tx) (p := 0) (Nat.zero_le p) hp (by unfold dcB; simp [h])
  exact ⟨r, h1⟩
theorem neq_some {q p : Nat} : (!decide (some q = some p)) = ((q : Int) != (p : Int)) := by
  rw [Bool.eq_iff_iff]; simp; omega
section
variable {w : World} {l : List Tr.Nd} {A O : Option Addr} {n bd bp : Nat}
set_option maxRecDepth 100000 in
set_option maxHeartbeats 1500000 in
theorem fitsReturn_any (h : Prg w l A n O bd bp) (c co p m : Nat) (hp : p < n) (how : owA l p = (m : Int)) (hm : m < n) : Calls Try.prog 60 #[PrV A n c O co bd bp, .int .i64 (p : Int)] w (BPost (fitR l p) w) := by
  unfold PrV
  have hb0 := heap1 w (.cells #[.slice A n c, .slice O n co, .map (some bd), .map (some bp)] 59)
  have xl : p < l.length := by rw [← h.len]; exact hp
  have xz : (p : Int) < (n : Int) := by omega
  obtain ⟨bA, off, K, cK, rfl, xt, x0, x1, x2, x3, x4, xI⟩ := node_at h.nds hb0 p xl
  rw [← ndA_eq xl] at x0 x1 x2 x3 x4 xI
  have ul : m < l.length := by rw [← h.len]; exact hm
  have uz : (m : Int) < (n : Int) := by omega
  obtain ⟨bBu, offu, K2, cK2, eu, ut, u0, u1, u2, u3, u4, uI⟩ := node_at h.nds hb0 m ul
  cases eu
  rw [← ndA_eq ul] at u0 u1 u2 u3 u4 uI
  obtain ⟨bO, oO, rfl, hOl, hOc⟩ := h.owner_at hb0 hp
  rw [how] at hOc
  have hkr := h.kr hp
  obtain ⟨W0, hW0⟩ : ∃ W0, w.alloc (.cells #[.slice (some ⟨bA, off, none⟩) n c, .slice (some ⟨bO, oO, none⟩) n co, .map (some bd), .map (some bp)] 59) = W0 := ⟨_, rfl⟩
  have hX := Bx.new w 59 [.slice (some ⟨bA, off, none⟩) n c, .slice (some ⟨bO, oO, none⟩) n co, .map (some bd), .map (some bp)]
  rw [hW0] at hb0 hX hOl hOc x0 x1 x2 x3 x4 xt u0 u1 u2 u3 u4 ut
  have HT := Lib.hid (fun W (hb : Below W0.heap.size W0 W) (k : Nat) (hk : k < n) => typeE_any (h.below (bt hb0 hb)) c co k hk)
  have hKI : ∀ (h0 : 0 < (ndA l p).ks.length), ∃ b o, K = some ⟨b, o, none⟩ ∧ b < W0.heap.size ∧ W0.cell? ⟨b, o, none⟩ = some (.int .i64 (ndA l p).ks[0]) := fun h0 => by
    obtain ⟨b, o, e, hb, hc⟩ := xI h0
    have := (hb0.cell (p := ⟨b, o, none⟩) hb).trans (hc 0 h0)
    exact ⟨b, o, e, Nat.lt_of_lt_of_le hb hb0.size, this⟩
  obtain ⟨R, hR⟩ : ∃ R, R = fitR l p := ⟨_, rfl⟩
  unfold fitR at hR
  rw [how] at hR
  rw [show fitR l p = R by rw [hR]; unfold fitR; rw [how]]
  unfold PrV at HT
  have HB0 := Lib.hid hb0
  have HX := Lib.hid hX
  have b0 := (hX.cell 0).trans rfl
  have b1 := (hX.cell 1).trans rfl
  have b2 := (hX.cell 2).trans rfl
  have b3 := (hX.cell 3).trans rfl
  have d0 := cell_regrown b0
  have d1 := cell_regrown b1
  have d2 := cell_regrown b2
  have d3 := cell_regrown b3
  have e4 := cell_regrown u1
  have e5 := cell_regrown hOc
  have HXT := Lib.hid (And.intro xt x4)
  clear h how hb0 xI u0 u1 u2 u3 u4 x0 x1 x2 x3 x4 uI b0 b1 b2 b3 hOc hX
  generalize (ndA l (m : Int)).n = rn at *
  by_cases h0 : (ndA l p).ks = []
  · have hR2 := Lib.hid (show (rn == 0) = R by rw [hR, if_pos (Or.inl h0), h0]; simp [Bool.beq_eq_decide_eq])
    have hm0 := z_eq0 (show (ndA l p).ks.length = 0 by rw [h0]; rfl)
    clear hR h0 hKI hkr HT
    generalize (ndA l (p : Int)).ks.length = mk at *
    go_enter Try.func60, Try.ntmps60
    go_wp2
    refine wp_region_quiet_below (by kernel_rfl) (by kernel_rfl) ?_
    repeat (go_big_quiet_step (first | fail))
    refine wpQuiet_nil ?_
    intro _ hw'
    obtain ⟨⟨dq, osq⟩, hw''⟩ := hw'
    subst hw''
    have hbq := below_regrown W0 dq osq
    generalize grow (redrawn W0 dq) osq = w1 at *
    have hX1 := HX.out.below hbq HX.out.lt
    have c0 := (hX1.cell 0).trans rfl
    have c1 := (hX1.cell 1).trans rfl
    have c2 := (hX1.cell 2).trans rfl
    have c3 := (hX1.cell 3).trans rfl
    have z4 := (hbq.cell (p := ⟨bA, off + p * 5 + 4, none⟩) HXT.out.1).trans HXT.out.2
    have HQ := Lib.hid hbq
    clear hX1 hbq
    go_wp2
    go_ret
    exact ⟨congrArg (fun z => Ending.returned (Value.bool z)) hR2.out, bt HB0.out HQ.out⟩
  · have hl0 : 0 < (ndA l p).ks.length := List.length_pos_iff.2 h0
    have hm0 := z_ne0 (show (ndA l p).ks.length ≠ 0 by omega)
    by_cases hrn : rn = 0
    · subst hrn
      have hR2 := Lib.hid (show false = R by rw [hR, if_pos (Or.inr rfl)]; simp [h0])
      clear hR h0 hKI hkr HT hl0
      generalize (ndA l (p : Int)).ks.length = mk at *
      go_enter Try.func60, Try.ntmps60
      go_wp2
      refine wp_region_quiet_below (by kernel_rfl) (by kernel_rfl) ?_
      repeat (go_big_quiet_step (first | fail))
      refine wpQuiet_nil ?_
      intro _ hw'
      obtain ⟨⟨dq, osq⟩, hw''⟩ := hw'
      subst hw''
      have hbq := below_regrown W0 dq osq
      generalize grow (redrawn W0 dq) osq = w1 at *
      have hX1 := HX.out.below hbq HX.out.lt
      have c0 := (hX1.cell 0).trans rfl
      have c1 := (hX1.cell 1).trans rfl
      have c2 := (hX1.cell 2).trans rfl
      have c3 := (hX1.cell 3).trans rfl
      have z4 := (hbq.cell (p := ⟨bA, off + p * 5 + 4, none⟩) HXT.out.1).trans HXT.out.2
      have HQ := Lib.hid hbq
      clear hX1 hbq
      go_wp2
      go_ret
      exact ⟨congrArg (fun z => Ending.returned (Value.bool z)) hR2.out, bt HB0.out HQ.out⟩
    · obtain ⟨bk, ok, rfl, hbk, hck⟩ := hKI hl0
      obtain ⟨hk0, hk1⟩ := hkr _ (List.getElem_mem hl0)
      obtain ⟨k, hk⟩ : ∃ k : Nat, (ndA l p).ks[0] = (k : Int) := ⟨((ndA l p).ks[0]).toNat, by omega⟩
      rw [hk] at hck hk1
      have hkn : k < n := by omega
      have hty : typA l (kidA l p 0).toNat = typA l k := by
        have e : kidA l p 0 = (k : Int) := by
          unfold kidA; rw [← hk, List.getD_eq_getElem?_getD, List.getElem?_eq_getElem hl0]; rfl
        rw [e]; rfl
      have hR2 := Lib.hid (show (typA l k == rn) = R by rw [hR, if_neg (by simp [h0, hrn]), hty]; rfl)
      have hrz : (rn == 0) = false := beq_eq_false_iff_ne.2 hrn
      have hmz : (0 : Int) < (((ndA l p).ks.length : Nat) : Int) := by omega
      have HCK := Lib.hid (And.intro hbk hck)
      have HTK := Lib.hid (fun W (hb : Below W0.heap.size W0 W) => HT.out W hb k hkn)
      clear hR h0 hKI hkr HT hk hk0 hk1 hty hkn hbk hck hl0
      generalize typA l k = ty at *
      generalize (ndA l (p : Int)).ks.length = mk at *
      go_enter Try.func60, Try.ntmps60
      go_wp2
      refine wp_region_quiet_below (by kernel_rfl) (by kernel_rfl) ?_
      repeat (go_big_quiet_step (first | fail))
      refine wpQuiet_nil ?_
      intro _ hw'
      obtain ⟨⟨dq, osq⟩, hw''⟩ := hw'
      subst hw''
      have hbq := below_regrown W0 dq osq
      generalize grow (redrawn W0 dq) osq = w1 at *
      have hX1 := HX.out.below hbq HX.out.lt
      have c0 := (hX1.cell 0).trans rfl
      have c1 := (hX1.cell 1).trans rfl
      have c2 := (hX1.cell 2).trans rfl
      have c3 := (hX1.cell 3).trans rfl
      have z4 := (hbq.cell (p := ⟨bA, off + p * 5 + 4, none⟩) HXT.out.1).trans HXT.out.2
      have HQ := Lib.hid hbq
      clear hX1 hbq
      go_wp2
      have y4 := (HQ.out.cell (p := ⟨bk, ok, none⟩) HCK.out.1).trans HCK.out.2
      have k0 := cell_regrown y4
      have g0 := cell_regrown c0
      have g1 := cell_regrown c1
      have g2 := cell_regrown c2
      have g3 := cell_regrown c3
      have cq : ∀ d os, Calls Try.prog 23 #[.agg #[.slice (some ⟨bA, off, none⟩) n c, .slice (some ⟨bO, oO, none⟩) n co, .map (some bd), .map (some bp)], .int .i64 (k : Int)] (grow (redrawn w1 d) os) fun e w'' => e = .returned (.int .i64 ty) ∧ ∃ p : Regrown, w'' = grow (redrawn w1 p.d) p.os := fun d os => Calls.regrown_of (HTK.out _ (bt HQ.out (below_regrown w1 d os)))
      clear y4 c0 c1 c2 c3 z4
      refine wp_region_quiet_below (by kernel_rfl) (by kernel_rfl) ?_
      repeat (go_big_quiet_step (first | exact cq _ _))
      refine wpQuiet_nil ?_
      intro _ hw'
      obtain ⟨⟨dq, osq⟩, hw''⟩ := hw'
      subst hw''
      have hbq := below_regrown w1 dq osq
      generalize grow (redrawn w1 dq) osq = w2 at *
      have HQ2 := Lib.hid (bt HQ.out hbq)
      clear hbq cq
      go_wp2
      go_ret
      exact ⟨congrArg (fun z => Ending.returned (Value.bool z)) hR2.out, bt HB0.out HQ2.out⟩
end
end Go.Proofs.Ytignojhijmamhaa.Ty
