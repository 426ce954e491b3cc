/- PROVED here: parts TyCi of the claim. No condition but those in each theorem's own head. -/
import Derived.Test.YtignojhijmamhaaK14
namespace Go.Proofs.Ytignojhijmamhaa.Ty
open Go Go.RowKit
open Tr (Bx heap1 bt Nds Ints VPost BPost)
section
variable {w : World} {l : List Tr.Nd} {A O : Option Addr} {n bd bp : Nat}
theorem Prg.kr (h : Prg w l A n O bd bp) {p : Nat} (hp : p < n) : ∀ x ∈ (ndA l p).ks, 0 ≤ x ∧ x < (n : Int) := fun x hx => by
  have hpl : p < l.length := by rw [← h.len]; exact hp
  obtain ⟨e1, e2⟩ := h.ahead p hpl x (by rw [← ndA_eq hpl]; exact hx)
  omega
theorem Prg.kl (h : Prg w l A n O bd bp) {p : Nat} (hp : p < n) : (ndA l p).ks.length ≤ 4000 := by
  have hpl : p < l.length := by rw [← h.len]; exact hp
  rw [ndA_eq hpl]
  exact h.kids _ (List.getElem_mem hpl)
theorem Prg.sl (h : Prg w l A n O bd bp) {p : Nat} (hp : p < n) : (sgP l p).length ≤ 4000 := Nat.le_trans (sgX_len l _) (h.kl hp)
set_option maxRecDepth 100000 in
set_option maxHeartbeats 1500000 in
theorem fitsSign_any (h : Prg w l A n O bd bp) (c co p : Nat) (hp : p < n) (K : Option Addr) (m cK : Nat) (hK : Ints w K (ndA l p).ks) (hm : m = (ndA l p).ks.length) : Calls Try.prog 58 #[PrV A n c O co bd bp, .agg #[.int .i64 (ndA l p).kd, .int .i64 (ndA l p).n, .int .i64 (ndA l p).pl, .string (ndA l p).tx, .slice K m cK]] w (BPost (fitB l p) w) := by
  unfold PrV
  have hb1 := bt (heap1 w (.cells #[.slice A n c, .slice O n co, .map (some bd), .map (some bp)] 59)) (heap1 (w.alloc (.cells #[.slice A n c, .slice O n co, .map (some bd), .map (some bp)] 59)) (.cells #[.int .i64 (ndA l p).kd, .int .i64 (ndA l p).n, .int .i64 (ndA l p).pl, .string (ndA l p).tx, .slice K m cK] 55))
  have HB1 := Lib.hid hb1
  have HA := Lib.hid (fun W t (hb : Below ((w.alloc (.cells #[.slice A n c, .slice O n co, .map (some bd), .map (some bp)] 59)).alloc (.cells #[.int .i64 (ndA l p).kd, .int .i64 (ndA l p).n, .int .i64 (ndA l p).pl, .string (ndA l p).tx, .slice K m cK] 55)).heap.size ((w.alloc (.cells #[.slice A n c, .slice O n co, .map (some bd), .map (some bp)] 59)).alloc (.cells #[.int .i64 (ndA l p).kd, .int .i64 (ndA l p).n, .int .i64 (ndA l p).pl, .string (ndA l p).tx, .slice K m cK] 55)) W) => areAll_any (h.below (bt hb1 hb)) c co K m cK (ndA l p).ks t (hK.below (bt hb1 hb)) hm (h.kr hp) (by rw [hm]; exact h.kl hp))
  have hX1 : Bx ((w.alloc (.cells #[.slice A n c, .slice O n co, .map (some bd), .map (some bp)] 59)).alloc (.cells #[.int .i64 (ndA l p).kd, .int .i64 (ndA l p).n, .int .i64 (ndA l p).pl, .string (ndA l p).tx, .slice K m cK] 55)) w.heap.size 59 [.slice A n c, .slice O n co, .map (some bd), .map (some bp)] := (Bx.new w 59 _).alloc _
  have hX2 := Bx.new (w.alloc (.cells #[.slice A n c, .slice O n co, .map (some bd), .map (some bp)] 59)) 55 [.int .i64 (ndA l p).kd, .int .i64 (ndA l p).n, .int .i64 (ndA l p).pl, .string (ndA l p).tx, .slice K m cK]
  rw [World.size_alloc] at hX2
  unfold PrV at HA
  unfold fitB
  clear h hb1 hK hm hp
  generalize (ndA l (p : Int)).ks = ks at *
  generalize (ndA l (p : Int)).tx = tx at *
  generalize (ndA l (p : Int)).kd = k at *
  generalize (ndA l (p : Int)).n = nn at *
  generalize (ndA l (p : Int)).pl = pl at *
  have HX := Lib.hid (And.intro hX1 hX2)
  clear hX1 hX2
  by_cases e0 : tx = ⟨#[33]⟩
  · subst e0
    rw [if_pos (by simp)]
    go_enter Try.func58, Try.ntmps58
    go_wp2_with (go_at_call 56; refine (HA.out _ 2 (Below.refl _ _)).mono ?_)
    rintro e w2 ⟨rfl, hb2⟩
    have HB2 := Lib.hid (bt HB1.out hb2)
    clear hb2
    go_wp2
    go_ret
    exact ⟨rfl, HB2.out⟩
  have q0 : (tx.toList == [33]) = false := lst_ne e0
  by_cases e1 : tx = ⟨#[38, 38]⟩
  · subst e1
    rw [if_pos (by simp)]
    go_enter Try.func58, Try.ntmps58
    go_wp2_with (go_at_call 56; refine (HA.out _ 2 (Below.refl _ _)).mono ?_)
    rintro e w2 ⟨rfl, hb2⟩
    have HB2 := Lib.hid (bt HB1.out hb2)
    clear hb2
    go_wp2
    go_ret
    exact ⟨rfl, HB2.out⟩
  have q1 : (tx.toList == [38, 38]) = false := lst_ne e1
  by_cases e2 : tx = ⟨#[124, 124]⟩
  · subst e2
    rw [if_pos (by simp)]
    go_enter Try.func58, Try.ntmps58
    go_wp2_with (go_at_call 56; refine (HA.out _ 2 (Below.refl _ _)).mono ?_)
    rintro e w2 ⟨rfl, hb2⟩
    have HB2 := Lib.hid (bt HB1.out hb2)
    clear hb2
    go_wp2
    go_ret
    exact ⟨rfl, HB2.out⟩
  have q2 : (tx.toList == [124, 124]) = false := lst_ne e2
  rw [if_neg (by simp [e0, e1, e2])]
  by_cases e3 : tx = ⟨#[61, 61]⟩
  · subst e3
    rw [if_pos (by simp)]
    cases hA : areB l ks 1 with
    | true =>
      have HA1 := Lib.hid (HA.out _ 1 (Below.refl _ _))
      rw [hA] at HA1
      clear hA
      go_enter Try.func58, Try.ntmps58
      go_wp2_with (go_at_call 56; refine HA1.out.mono ?_)
      rintro e w2 ⟨rfl, hb2⟩
      have HB2 := Lib.hid (bt HB1.out hb2)
      clear hb2
      go_wp2
      go_ret
      exact ⟨rfl, HB2.out⟩
    | false =>
      have HA1 := Lib.hid (HA.out _ 1 (Below.refl _ _))
      rw [hA] at HA1
      clear hA
      go_enter Try.func58, Try.ntmps58
      go_wp2_with (go_at_call 56; refine HA1.out.mono ?_)
      rintro e w2 ⟨rfl, hb2⟩
      have hB2 := HX.out.1.below hb2 HX.out.1.lt
      have hN2 := HX.out.2.below hb2 HX.out.2.lt
      have c0 := (hB2.cell 0).trans rfl
      have c1 := (hB2.cell 1).trans rfl
      have c2 := (hB2.cell 2).trans rfl
      have c3 := (hB2.cell 3).trans rfl
      have n4 := (hN2.cell 4).trans rfl
      clear hB2 hN2
      have HA2 := Lib.hid (HA.out _ 2 hb2)
      have HB2 := Lib.hid (bt HB1.out hb2)
      clear hb2
      go_wp2_with (go_at_call 56; refine HA2.out.mono ?_)
      rintro e w3 ⟨rfl, hb3⟩
      have HB3 := Lib.hid (bt HB2.out hb3)
      clear hb3
      go_wp2
      go_ret
      exact ⟨rfl, HB3.out⟩
  have q3 : (tx.toList == [61, 61]) = false := lst_ne e3
  by_cases e4 : tx = ⟨#[33, 61]⟩
  · subst e4
    rw [if_pos (by simp)]
    cases hA : areB l ks 1 with
    | true =>
      have HA1 := Lib.hid (HA.out _ 1 (Below.refl _ _))
      rw [hA] at HA1
      clear hA
      go_enter Try.func58, Try.ntmps58
      go_wp2_with (go_at_call 56; refine HA1.out.mono ?_)
      rintro e w2 ⟨rfl, hb2⟩
      have HB2 := Lib.hid (bt HB1.out hb2)
      clear hb2
      go_wp2
      go_ret
      exact ⟨rfl, HB2.out⟩
    | false =>
      have HA1 := Lib.hid (HA.out _ 1 (Below.refl _ _))
      rw [hA] at HA1
      clear hA
      go_enter Try.func58, Try.ntmps58
      go_wp2_with (go_at_call 56; refine HA1.out.mono ?_)
      rintro e w2 ⟨rfl, hb2⟩
      have hB2 := HX.out.1.below hb2 HX.out.1.lt
      have hN2 := HX.out.2.below hb2 HX.out.2.lt
      have c0 := (hB2.cell 0).trans rfl
      have c1 := (hB2.cell 1).trans rfl
      have c2 := (hB2.cell 2).trans rfl
      have c3 := (hB2.cell 3).trans rfl
      have n4 := (hN2.cell 4).trans rfl
      clear hB2 hN2
      have HA2 := Lib.hid (HA.out _ 2 hb2)
      have HB2 := Lib.hid (bt HB1.out hb2)
      clear hb2
      go_wp2_with (go_at_call 56; refine HA2.out.mono ?_)
      rintro e w3 ⟨rfl, hb3⟩
      have HB3 := Lib.hid (bt HB2.out hb3)
      clear hb3
      go_wp2
      go_ret
      exact ⟨rfl, HB3.out⟩
  have q4 : (tx.toList == [33, 61]) = false := lst_ne e4
  rw [if_neg (by simp [e3, e4])]
  clear e0 e1 e2 e3 e4
  go_enter Try.func58, Try.ntmps58
  go_wp2_with (go_at_call 56; refine (HA.out _ 1 (Below.refl _ _)).mono ?_)
  rintro e w2 ⟨rfl, hb2⟩
  have HB2 := Lib.hid (bt HB1.out hb2)
  clear hb2
  go_wp2
  go_ret
  exact ⟨rfl, HB2.out⟩
set_option maxRecDepth 100000 in
set_option maxHeartbeats 1500000 in
theorem isPlain_any (h : Prg w l A n O bd bp) (c co q : Nat) (hq : q < n) : Calls Try.prog 57 #[PrV A n c O co bd bp, .int .i64 (q : Int)] w (BPost (plnB l q) w) := by
  have hb0 := heap1 w (.cells #[.slice A n c, .slice O n co, .map (some bd), .map (some bp)] 59)
  have HB0 := Lib.hid hb0
  have HS := Lib.hid (sig_any (h.below hb0) c co q hq)
  have HL := Lib.hid (h.sl hq)
  have HP : ∀ W, Calls Try.prog 68 #[] W (fun e w' => ∃ K c, e = .returned (.agg #[.slice K 1 c, .int .i64 1]) ∧ Ints w' K [1] ∧ Below W.heap.size W w' ∧ ∀ a, K = some a → W.heap.size ≤ a.block) := plainSig_any
  unfold PrV at HS
  unfold PrV plnB
  clear h hb0 hq
  generalize sgP l q = xs at *
  generalize (ndA l (q : Int)).n = rs at *
  go_enter Try.func57, Try.ntmps57
  go_wp2_with (go_at_call 39; refine HS.out.mono ?_)
  rintro e w1 ⟨K1, c1, rfl, hI1, hb1, _⟩
  obtain ⟨m, hm⟩ : ∃ m, m = xs.length := ⟨_, rfl⟩
  rw [← hm]
  have HH1 := Lib.hid (And.intro hI1 (And.intro hb1 hm))
  clear hI1 hb1 hm
  go_wp2_with (go_at_call 68; refine (HP _).mono ?_)
  rintro e w2 ⟨K2, c2, rfl, hI2, hb2, _⟩
  have HH2 := Lib.hid (And.intro hI2 hb2)
  clear hI2 hb2
  go_wp2_with (go_at_call 40; refine (sameSig_any K1 K2 m 1 c1 c2 xs [1] rs 1 w2 (HH1.out.1.below HH2.out.2) HH2.out.1 HH1.out.2.2 rfl (by have := HL.out; have := HH1.out.2.2; omega)).mono ?_)
  rintro e w3 ⟨rfl, hb3⟩
  have HH3 := Lib.hid hb3
  clear hb3
  go_wp2
  go_ret
  exact ⟨rfl, bt HB0.out (bt HH1.out.2.1 (bt HH2.out.2 HH3.out))⟩
set_option maxRecDepth 100000 in
set_option maxHeartbeats 1500000 in
theorem hasMain_any (h : Prg w l A n O bd bp) (c co : Nat) : Calls Try.prog 19 #[PrV A n c O co bd bp] w (BPost (manB l) w) := by
  have hb0 := heap1 w (.cells #[.slice A n c, .slice O n co, .map (some bd), .map (some bp)] 59)
  have HB0 := Lib.hid hb0
  have HP := Lib.hid (procedure_any (h.below hb0) c co ⟨#[109, 97, 105, 110]⟩ (by decide))
  unfold manB
  cases hp : prF l ⟨#[109, 97, 105, 110]⟩ 0 with
  | none =>
    rw [hp] at HP
    unfold PrV at HP
    unfold PrV
    clear h hb0 hp
    go_enter Try.func19, Try.ntmps19
    go_wp2_with (go_at_call 38; refine HP.out.mono ?_)
    rintro e w1 ⟨rfl, hb1⟩
    have HB1 := Lib.hid (bt HB0.out hb1)
    clear hb1
    rw [show optZ none = -1 from rfl]
    go_wp2
    go_ret
    exact ⟨rfl, HB1.out⟩
  | some q =>
    have hq : q < n := by rw [h.len]; exact (prF_lt hp).1
    have HS := Lib.hid (fun W (hb : Below w.heap.size w W) => sig_any (h.below hb) c co q hq)
    have HX := Lib.hid (Bx.new w 59 [.slice A n c, .slice O n co, .map (some bd), .map (some bp)])
    have HL := Lib.hid (h.sl hq)
    rw [hp, show optZ (some q) = (q : Int) from rfl] at HP
    have hne : ((q : Int) != -1) = true := by simp
    unfold PrV at HP HS
    unfold PrV
    show Calls _ _ _ _ (BPost (decide (sgP l q = []) && decide ((ndA l q).n = 0)) w)
    generalize sgP l q = xs at *
    generalize (ndA l (q : Int)).n = rs at *
    clear h hb0 hp hq
    go_enter Try.func19, Try.ntmps19
    go_wp2_with (go_at_call 38; refine HP.out.mono ?_)
    rintro e w1 ⟨rfl, hb1⟩
    have hB2 := HX.out.below hb1 HX.out.lt
    have c0 := (hB2.cell 0).trans rfl
    have c1 := (hB2.cell 1).trans rfl
    have c2 := (hB2.cell 2).trans rfl
    have c3 := (hB2.cell 3).trans rfl
    have HB1 := Lib.hid (bt HB0.out hb1)
    clear hb1 hB2
    go_wp2_with (go_at_call 39; refine (HS.out _ HB1.out).mono ?_)
    rintro e w2 ⟨K1, c1, rfl, hI1, hb2, _⟩
    obtain ⟨m, hm⟩ : ∃ m, m = xs.length := ⟨_, rfl⟩
    rw [← hm]
    have HH1 := Lib.hid (And.intro hI1 (And.intro hb2 hm))
    clear hI1 hb2 hm
    go_wp2_with (go_at_call 40; refine (sameSig_any K1 none m 0 c1 0 xs [] rs 0 w2 HH1.out.1 (fun h => absurd h (Nat.lt_irrefl 0)) HH1.out.2.2 rfl (by have := HL.out; have := HH1.out.2.2; omega)).mono ?_)
    rintro e w3 ⟨rfl, hb3⟩
    have HH3 := Lib.hid hb3
    clear hb3
    go_wp2
    go_ret
    exact ⟨rfl, bt HB1.out (bt HH1.out.2.1 HH3.out)⟩
end
end Go.Proofs.Ytignojhijmamhaa.Ty
