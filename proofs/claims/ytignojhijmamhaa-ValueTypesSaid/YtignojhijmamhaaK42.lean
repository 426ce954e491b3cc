/- PROVED here: parts TyDa Eg of the claim. No condition but those in each theorem's own head. -/
import Derived.Test.YtignojhijmamhaaK08
import Derived.Test.YtignojhijmamhaaK23
import Derived.Test.YtignojhijmamhaaK41
import Derived.Test.YtignojhijmamhaaK27
namespace Go.Proofs.Ytignojhijmamhaa.Ty
section
open Go
open Tr (nth stmB expB allB kidB ndB shB risB run1 ri1 ri2 numB txB idB sgB StU kidsAt Snd stK)
theorem RtN.nat {l : List Tr.Nd} {b : Nat → Nat} (h : RtN l b) {p : Nat} (hp : p < l.length) : ∀ k ∈ (ndA l p).ks, ∃ m : Nat, k = (m : Int) ∧ m < p := fun k hk => by
  have h1 := h.st p hp
  rw [kidsAt_ks hp] at h1
  obtain ⟨m, e, h2, _⟩ := Tr.stK_mem _ p (b p) (fun q hq => h.st.le q (by omega)) h1 k (List.mem_reverse.2 hk)
  exact ⟨m, e, h2⟩
end
end Go.Proofs.Ytignojhijmamhaa.Ty
namespace Go.Proofs.Ytignojhijmamhaa
open Go Go.RowKit Go.Sort
open Va (Bx heap1 bt VP VI V2 V3 str_eq str_ne below2 Hp C46 unR binR getV lenH tB)
open Ty (TT tpT pcT chkT)
open Ty.Tr (Nd rgB)
set_option maxRecDepth 100000 in
theorem isExpr_any (k : Int) (w : World) : Calls Try.prog 24 #[.int .i64 k] w fun e w' => e = .returned (.bool (decide (20 ≤ k) && decide (k ≤ 27))) ∧ w = w' := by
  by_cases h : (20 : Int) ≤ k
  · have hd : decide ((20 : Int) ≤ k) = true := decide_eq_true h
    rw [hd, Bool.true_and]
    go_enter Try.func24, Try.ntmps24
    go_wp2
    go_ret
    exact ⟨rfl, rfl⟩
  · have hd : decide ((20 : Int) ≤ k) = false := decide_eq_false h
    rw [hd, Bool.false_and]
    go_enter Try.func24, Try.ntmps24
    go_wp2
    go_ret
    exact ⟨rfl, rfl⟩
theorem kid_ex {kd : Int} {X : List Int} (h1 : 20 ≤ kd) (h2 : kd ≤ 27) (h : Ty.Tr.kidB kd X = true) : X.length ≤ 2 ∧ ∀ k ∈ X, 20 ≤ k ∧ k ≤ 27 := by
  have hz : X.length = 0 → X.length ≤ 2 ∧ ∀ k ∈ X, 20 ≤ k ∧ k ≤ 27 := fun e => by
    have := List.eq_nil_of_length_eq_zero e
    subst this
    exact ⟨by simp, fun k hk => by cases hk⟩
  have ha : ∀ m, m ≤ 2 → X.length = m → Ty.Tr.allB X = true → X.length ≤ 2 ∧ ∀ k ∈ X, 20 ≤ k ∧ k ≤ 27 := fun m hm e q => ⟨by omega, fun k hk => by
    have := List.all_eq_true.1 q k hk
    unfold Ty.Tr.expB at this
    simpa using this⟩
  rcases (show kd = 20 ∨ kd = 21 ∨ kd = 22 ∨ kd = 23 ∨ kd = 24 ∨ kd = 25 ∨ kd = 26 ∨ kd = 27 by omega) with rfl | rfl | rfl | rfl | rfl | rfl | rfl | rfl
  · exact hz (by simpa [Ty.Tr.kidB] using h)
  · exact hz (by simpa [Ty.Tr.kidB] using h)
  · exact hz (by simpa [Ty.Tr.kidB] using h)
  · have q : X.length = 1 ∧ Ty.Tr.allB X = true := by simpa [Ty.Tr.kidB] using h
    exact ha 1 (by decide) q.1 q.2
  · exact hz (by simpa [Ty.Tr.kidB] using h)
  · exact hz (by simpa [Ty.Tr.kidB] using h)
  · have q : X.length = 1 ∧ Ty.Tr.allB X = true := by simpa [Ty.Tr.kidB] using h
    exact ha 1 (by decide) q.1 q.2
  · have q : X.length = 2 ∧ Ty.Tr.allB X = true := by simpa [Ty.Tr.kidB] using h
    exact ha 2 (by decide) q.1 q.2
theorem exok_of {l : List Nd} {r : Int} (h : rgB l r = true) : ExOk l := by
  obtain ⟨⟨b, hb⟩, _, _⟩ := Ty.rtn_of h
  intro p hp h1 h2
  have hx := List.all_eq_true.1 hb.sh l[p] (List.getElem_mem hp)
  unfold Ty.Tr.ndB at hx
  simp only [Bool.and_eq_true] at hx
  obtain ⟨hl, hk⟩ := kid_ex h1 h2 hx.2.2.2.2
  rw [List.length_map] at hl
  refine ⟨hl, fun e => ?_, fun k hkm => ?_⟩
  · have := hx.2.2.2.1
    rw [e] at this
    simpa [Ty.Tr.numB] using this
  · have hn := hb.nat hp k (by rw [Ty.ndA_eq hp]; exact hkm)
    obtain ⟨i, rfl, hi⟩ := hn
    have hil : i < l.length := by omega
    have q := hk _ (List.mem_map_of_mem hkm)
    rw [Int.toNat_natCast, Ty.Tr.nth_eq hil] at q
    exact ⟨i, rfl, hi, hil, q⟩
noncomputable def evA (l : List Nd) (r : Int) (ns : List NV) (L : List (List Int)) (z : Int) : (Int × Int) × Int :=
  if 0 ≤ z ∧ z < (l.length : Int) ∧ 20 ≤ (Ty.Tr.nth l z.toNat).kd ∧ (Ty.Tr.nth l z.toNat).kd ≤ 27 ∧ (chkT l r).2 = 0 then evV l r ns L l.length z.toNat else ((0, 0), 0)
section
variable {w : World} {A : Option Addr} {n : Nat} {l : List Nd} {B : Option Addr} {ns : List NV} {base g : Nat} {v : Value} {vs : List Value} {L : List (List Int)}
set_option maxRecDepth 100000 in
set_option maxHeartbeats 2000000 in
theorem Eval_any (h : Sc w A n l B ns base g v vs L) (c d : Nat) (r z : Int) : Calls Try.prog 9 #[.agg #[.slice A n c, .int .i64 r], .int .i64 z, .slice B ns.length d, .pointer (some ⟨g, 0, none⟩)] w (VI (evA l r ns L z).1.1 (evA l r ns L z).1.2 (evA l r ns L z).2 w) := by
  have HEV := Lib.hid (fun (hx : ExOk l) (W : World) (b : Below w.heap.size w W) (p : Nat) (hp : p < l.length) (h1 : 20 ≤ l[p].kd) (h2 : l[p].kd ≤ 27) => eval_any hx c d r l.length p W (h.below b) hp hp h1 h2)
  have HCK := Lib.hid (fun (W : World) (b : Below w.heap.size w W) => Ty.check_any (h.below b).tt c r)
  unfold scn at HEV
  obtain ⟨m, hm⟩ : ∃ m, ns.length = m := ⟨_, rfl⟩
  rw [hm] at HEV ⊢
  have HLN := Lib.hid h.tt.len
  have HN := Lib.hid h.tt.nds
  have hX0 := (Bx.new w 24 [.slice A n c, .int .i64 r]).alloc (.cells #[.int .i64 0, .int .i64 0] 41)
  have hX1 := Bx.new (w.alloc (.cells #[.slice A n c, .int .i64 r] 24)) 41 [.int .i64 0, .int .i64 0]
  simp only [World.size_alloc] at hX1
  have hb0 : Below w.heap.size w ((w.alloc (.cells #[.slice A n c, .int .i64 r] 24)).alloc (.cells #[.int .i64 0, .int .i64 0] 41)) := (heap1 _ _).alloc (by simp only [World.size_alloc]; omega) _
  obtain ⟨W0, hW0⟩ : ∃ W0, ((w.alloc (.cells #[.slice A n c, .int .i64 r] 24)).alloc (.cells #[.int .i64 0, .int .i64 0] 41)) = W0 := ⟨_, rfl⟩
  have HX0 := Lib.hid (show Bx W0 w.heap.size 24 [.slice A n c, .int .i64 r] by rw [← hW0]; exact hX0)
  have HX1 := Lib.hid (show Bx W0 (w.heap.size + 1) 41 [.int .i64 0, .int .i64 0] by rw [← hW0]; exact hX1)
  rw [hW0] at hb0
  have HB0 := Lib.hid hb0
  have HRF := Lib.hid (Below.refl W0.heap.size W0)
  have a0 := (HX0.out.cell 0).trans rfl
  have a1 := (HX0.out.cell 1).trans rfl
  clear hX0 hX1 hb0 hm h
  by_cases hz : z < 0
  · have HO := Lib.hid (show evA l r ns L z = ((0, 0), 0) by unfold evA; rw [if_neg (by omega)])
    go_enter Try.func9, Try.ntmps9
    go_upto_region 2 with (fail)
    have y1 := HX1.out.below HRF.out HX1.out.lt
    have c0 := (y1.cell 0).trans rfl
    have c1 := (y1.cell 1).trans rfl
    have f0 := y1.frozen 0
    have f1 := y1.frozen 1
    have HZ := Lib.hid (bt HB0.out HRF.out)
    go_wp2
    have z := (y1.set_ 0 (.int .i64 0)).set_ 1 (.int .i64 0)
    have c0 := (z.cell 0).trans rfl
    have c1 := (z.cell 1).trans rfl
    exact bodyPost_ret (v := .tuple #[.agg #[.int .i64 0, .int .i64 0], .int .i64 0]) (by simp [results, Try.results9, go_sem, c0, c1]) rfl (by rw [HO.out]; exact ⟨rfl, below2 HZ.out (by omega)⟩)
  obtain ⟨p, rfl⟩ : ∃ p : Nat, z = (p : Int) := ⟨z.toNat, by omega⟩
  by_cases hn : (n : Int) ≤ (p : Int)
  · have HO := Lib.hid (show evA l r ns L (p : Int) = ((0, 0), 0) by unfold evA; have := HLN.out; rw [if_neg (by omega)])
    go_enter Try.func9, Try.ntmps9
    go_upto_region 2 with (fail)
    have y1 := HX1.out.below HRF.out HX1.out.lt
    have c0 := (y1.cell 0).trans rfl
    have c1 := (y1.cell 1).trans rfl
    have f0 := y1.frozen 0
    have f1 := y1.frozen 1
    have HZ := Lib.hid (bt HB0.out HRF.out)
    go_wp2
    have z := (y1.set_ 0 (.int .i64 0)).set_ 1 (.int .i64 0)
    have c0 := (z.cell 0).trans rfl
    have c1 := (z.cell 1).trans rfl
    exact bodyPost_ret (v := .tuple #[.agg #[.int .i64 0, .int .i64 0], .int .i64 0]) (by simp [results, Try.results9, go_sem, c0, c1]) rfl (by rw [HO.out]; exact ⟨rfl, below2 HZ.out (by omega)⟩)
  have hpl : p < l.length := by have := HLN.out; omega
  have hpn : (p : Int) < (n : Int) := by omega
  obtain ⟨bA, off, K, cK, rfl, xt, x0, _, _, _, _, _⟩ := Ty.node_at (HN.out.below HB0.out) (Below.refl _ W0) p hpl
  obtain ⟨kd, hkd⟩ : ∃ kd, l[p].kd = kd := ⟨_, rfl⟩
  have hnth : (Ty.Tr.nth l ((p : Int)).toNat).kd = kd := by rw [Int.toNat_natCast, Ty.Tr.nth_eq hpl, hkd]
  rw [hkd] at x0
  have HKD := Lib.hid hkd
  have HNT := Lib.hid hnth
  have HIS := Lib.hid (isExpr_any kd W0)
  by_cases hk : (20 : Int) ≤ kd ∧ kd ≤ 27
  · rw [decide_eq_true hk.1, decide_eq_true hk.2] at HIS
    have HKK := Lib.hid hk
    have HC := Lib.hid (HCK.out W0 HB0.out)
    obtain ⟨⟨q1, q2⟩, hq⟩ : ∃ R, chkT l r = R := ⟨_, rfl⟩
    rw [hq] at HC
    dsimp only at HC
    have HQ := Lib.hid hq
    clear hk hkd hnth hq
    go_enter Try.func9, Try.ntmps9
    go_wp2_with (first | (go_at_call 24; refine HIS.out.mono ?_; rintro e w1 ⟨rfl, rfl⟩) | (go_at_call 6; refine HC.out.mono ?_))
    rintro e w2 ⟨rfl, hb2⟩
    by_cases hq2 : q2 = 0
    · subst hq2
      have hrg : rgB l r = true := by
        cases hr : rgB l r with
        | true => rfl
        | false => have := HQ.out; unfold chkT at this; rw [hr] at this; simp at this
      have HO := Lib.hid (show evA l r ns L (p : Int) = evV l r ns L l.length p by unfold evA; rw [HNT.out, HQ.out, if_pos ⟨by omega, by omega, HKK.out.1, HKK.out.2, rfl⟩, Int.toNat_natCast])
      have HE := Lib.hid (HEV.out (exok_of hrg) w2 (bt HB0.out hb2) p hpl (by rw [HKD.out]; exact HKK.out.1) (by rw [HKD.out]; exact HKK.out.2))
      obtain ⟨⟨⟨y1, y2⟩, e0⟩, hy⟩ : ∃ R, evV l r ns L l.length p = R := ⟨_, rfl⟩
      rw [hy] at HO HE
      dsimp only at HE
      have b0 := ((HX0.out.below hb2 HX0.out.lt).cell 0).trans rfl
      have b1 := ((HX0.out.below hb2 HX0.out.lt).cell 1).trans rfl
      have HX1a := Lib.hid (HX1.out.below hb2 HX1.out.lt)
      have HB2 := Lib.hid (bt HB0.out hb2)
      clear hb2 hy a0 a1 x0
      go_wp2_with (go_at_call 25; refine HE.out.mono ?_)
      rintro e w3 ⟨rfl, hb3⟩
      have y1' := HX1a.out.below hb3 HX1a.out.lt
      have c0 := (y1'.cell 0).trans rfl
      have c1 := (y1'.cell 1).trans rfl
      have f0 := y1'.frozen 0
      have f1 := y1'.frozen 1
      have HZ := Lib.hid (bt HB2.out hb3)
      clear b0 b1
      go_wp2
      have z := (y1'.set_ 0 (.int .i64 y1)).set_ 1 (.int .i64 y2)
      have c0 := (z.cell 0).trans rfl
      have c1 := (z.cell 1).trans rfl
      exact bodyPost_ret (v := .tuple #[.agg #[.int .i64 y1, .int .i64 y2], .int .i64 e0]) (by simp [results, Try.results9, go_sem, c0, c1]) rfl (by rw [HO.out]; exact ⟨rfl, below2 HZ.out (by omega)⟩)
    · have hne : (q2 != 0) = true := by simpa using hq2
      have HO := Lib.hid (show evA l r ns L (p : Int) = ((0, 0), 0) by unfold evA; rw [HQ.out, if_neg (fun q => hq2 q.2.2.2.2)])
      clear a0 a1 x0 hq2
      have y1 := HX1.out.below hb2 HX1.out.lt
      have c0 := (y1.cell 0).trans rfl
      have c1 := (y1.cell 1).trans rfl
      have f0 := y1.frozen 0
      have f1 := y1.frozen 1
      have HZ := Lib.hid (bt HB0.out hb2)
      go_wp2
      have z := (y1.set_ 0 (.int .i64 0)).set_ 1 (.int .i64 0)
      have c0 := (z.cell 0).trans rfl
      have c1 := (z.cell 1).trans rfl
      exact bodyPost_ret (v := .tuple #[.agg #[.int .i64 0, .int .i64 0], .int .i64 0]) (by simp [results, Try.results9, go_sem, c0, c1]) rfl (by rw [HO.out]; exact ⟨rfl, below2 HZ.out (by omega)⟩)
  · have hdd : (decide ((20 : Int) ≤ kd) && decide (kd ≤ 27)) = false := by
      rw [Bool.and_eq_false_iff]
      by_cases h1 : (20 : Int) ≤ kd
      · exact .inr (decide_eq_false fun h2 => hk ⟨h1, h2⟩)
      · exact .inl (decide_eq_false h1)
    rw [hdd] at HIS
    have HO := Lib.hid (show evA l r ns L (p : Int) = ((0, 0), 0) by unfold evA; rw [HNT.out, if_neg (fun q => hk ⟨q.2.2.1, q.2.2.2.1⟩)])
    clear hk hkd hnth hdd
    go_enter Try.func9, Try.ntmps9
    go_upto_region 2 with (go_at_call 24; refine HIS.out.mono ?_; rintro e w1 ⟨rfl, rfl⟩)
    have y1 := HX1.out.below HRF.out HX1.out.lt
    have c0 := (y1.cell 0).trans rfl
    have c1 := (y1.cell 1).trans rfl
    have f0 := y1.frozen 0
    have f1 := y1.frozen 1
    have HZ := Lib.hid (bt HB0.out HRF.out)
    go_wp2
    have z := (y1.set_ 0 (.int .i64 0)).set_ 1 (.int .i64 0)
    have c0 := (z.cell 0).trans rfl
    have c1 := (z.cell 1).trans rfl
    exact bodyPost_ret (v := .tuple #[.agg #[.int .i64 0, .int .i64 0], .int .i64 0]) (by simp [results, Try.results9, go_sem, c0, c1]) rfl (by rw [HO.out]; exact ⟨rfl, below2 HZ.out (by omega)⟩)
end
end Go.Proofs.Ytignojhijmamhaa
