/- PROVED here: the walk of TokenRows. No condition but those in each theorem's own head. -/
import Derived.Test.YtahmadelokofbaaDoorT
namespace Go.Proofs.YtahmadelokofbaaDoor
open Go Go.RowKit

theorem cat_list (s t : ByteArray) : (s ++ ⟨#[10]⟩ ++ t : ByteArray).data.toList = s.data.toList ++ 10 :: t.data.toList := by
  rw [ByteArray.data_append, ByteArray.data_append]; simp
theorem cat_size (s t : ByteArray) : (s ++ ⟨#[10]⟩ ++ t : ByteArray).size = s.size + 1 + t.size := by
  rw [ByteArray.size_append, ByteArray.size_append]; rfl
theorem rows_of_bad {s t : ByteArray} {p : Nat} (h : cutL 0 s.data.toList = .bad p) : cutL 0 (s ++ ⟨#[10]⟩ ++ t : ByteArray).data.toList = .bad p := by
  rw [cat_list, cutL_rows _ _ 0 _ (Nat.le_refl _), h]
theorem rows_of_ok_bad {s t : ByteArray} {ts : List Tok} {q : Nat} (h : cutL 0 s.data.toList = .ok ts) (h2 : cutL 0 t.data.toList = .bad q) : cutL 0 (s ++ ⟨#[10]⟩ ++ t : ByteArray).data.toList = .bad (s.size + 1 + q) := by
  rw [cat_list, cutL_rows _ _ 0 _ (Nat.le_refl _), h]
  show (cutL (0 + s.data.toList.length + 1) t.data.toList).pre _ = _
  rw [cutL_at, h2]
  simp [Res.up, Res.pre]
  omega
theorem rows_of_ok {s t : ByteArray} {xs us : List Tok} {e : Tok} (h : cutL 0 s.data.toList = .ok (xs ++ [e])) (h2 : cutL 0 t.data.toList = .ok us) : cutL 0 (s ++ ⟨#[10]⟩ ++ t : ByteArray).data.toList = .ok (xs ++ us.map (Tok.up (s.size + 1))) := by
  rw [cat_list, cutL_rows _ _ 0 _ (Nat.le_refl _), h]
  show (cutL (0 + s.data.toList.length + 1) t.data.toList).pre _ = _
  rw [cutL_at, h2, List.dropLast_concat]
  simp [Res.up, Res.pre]
theorem like_up (xs us : List Tok) (k : Nat) : Like (xs ++ us.map (Tok.up k)) (xs ++ us) := by
  unfold Like
  rw [List.map_append, List.map_append, List.map_map]
  rfl
theorem like_n (A B : Option Addr) (ca cb n : Nat) (ts us : List Tok) (w : World) (hA : Toks w A ts) (hB : Toks w B us) (h1 : ts.length = n) (h2 : us.length = n) (hl : n ≤ 20001) (hL : Like ts us) :
    Calls Tryd.prog 22 #[.slice A n ca, .slice B n cb] w fun e w' => e = .returned (.bool true) ∧ Below w.heap.size w w' := by
  have := like_true A B ca cb ts us w hA hB (by omega) hL
  rw [h1, h2] at this
  exact this.mono fun _ _ ⟨e, n, h⟩ => ⟨e, by rw [h]; exact below_drewN (Below.refl _ _) n⟩
theorem bulk_len {ts : List Tok} (h : ∀ t ∈ ts, GT t) : ts.length ≤ bulk ts := by
  induction ts with
  | nil => simp [bulk]
  | cons t ts ih =>
    have h1 := ih (fun x hx => h x (List.mem_cons_of_mem _ hx))
    obtain ⟨_, _, _, c, w', e, _⟩ := h t (by simp)
    unfold bulk at *
    rw [List.map_cons, List.sum_cons, e, List.length_cons, List.length_cons]
    omega
theorem own_empty (w : World) (base : Nat) (hb : base ≤ w.heap.size) : (w.alloc (.cells #[] 34)).ownsRow base 34 4 (.slice (some ⟨w.heap.size, 0, none⟩) 0 0) 0 [] :=
  World.ownsRow_made (w := w) (base := base) (e := 34) (size := 4) #[] 0 hb (by decide) rfl
set_option maxRecDepth 100000 in
set_option maxHeartbeats 1500000 in
theorem rows_bb (s t : ByteArray) (w : World) (hE : Errs w) (h1 : s.size ≤ 1000) (h2 : t.size ≤ 1000) (p q : Nat) (hr : cutL 0 s.data.toList = .bad p) (hq : cutL 0 t.data.toList = .bad q) : Calls Tryd.prog 7 #[.string s, .string t] w (TruePost w) := by
  have HE := Lib.hid hE
  have HR := Lib.hid hr
  have HQ := Lib.hid hq
  clear hE hr hq
  have hz1 : ¬ (1000 : Int) < (s.size : Int) := by omega
  have hd1 : decide ((1000 : Int) < (s.size : Int)) = false := decide_eq_false hz1
  have hz2 : ¬ (1000 : Int) < (t.size : Int) := by omega
  have hd2 : decide ((1000 : Int) < (t.size : Int)) = false := decide_eq_false hz2
  obtain ⟨x, hx⟩ : ∃ x, x = (s ++ ⟨#[10]⟩ ++ t : ByteArray) := ⟨_, rfl⟩
  have hxs : x.size ≤ 20000 := by rw [hx, cat_size]; omega
  have HX := Lib.hid hx
  clear hx
  go_enter Tryd.func7, Tryd.ntmps7
  go_upto_region 4 with (go_at_call 10; refine (shown_any _ HE.out).mono ?_; rintro e w1 ⟨rfl, hb1⟩)
  go_wp2_with (go_at_call 11; refine (cut_badP s _ (HE.out.below hb1) (by omega) HR.out).mono ?_)
  rintro e w2 ⟨rfl, hb2⟩
  go_wp2_with (go_at_call 11; refine (cut_badP t _ (HE.out.below (bt hb1 hb2)) (by omega) HQ.out).mono ?_)
  rintro e w3 ⟨rfl, hb3⟩
  go_wp2_with (fail)
  rw [← HX.out]
  refine (cut_badP x _ (HE.out.below (bt (bt hb1 hb2) hb3)) hxs (by rw [HX.out]; exact rows_of_bad HR.out)).mono ?_
  rintro e w4 ⟨rfl, hb4⟩
  have hqq : ((p : Int) == (p : Int)) = true := beq_iff_eq.2 rfl
  go_wp2
  go_ret
  exact ⟨rfl, bt (bt (bt hb1 hb2) hb3) hb4⟩
set_option maxRecDepth 100000 in
set_option maxHeartbeats 1500000 in
theorem rows_bo (s t : ByteArray) (w : World) (hE : Errs w) (h1 : s.size ≤ 1000) (h2 : t.size ≤ 1000) (p : Nat) (us : List Tok) (hr : cutL 0 s.data.toList = .bad p) (hq : cutL 0 t.data.toList = .ok us) : Calls Tryd.prog 7 #[.string s, .string t] w (TruePost w) := by
  have HE := Lib.hid hE
  have HR := Lib.hid hr
  have HQ := Lib.hid hq
  clear hE hr hq
  have hz1 : ¬ (1000 : Int) < (s.size : Int) := by omega
  have hd1 : decide ((1000 : Int) < (s.size : Int)) = false := decide_eq_false hz1
  have hz2 : ¬ (1000 : Int) < (t.size : Int) := by omega
  have hd2 : decide ((1000 : Int) < (t.size : Int)) = false := decide_eq_false hz2
  obtain ⟨x, hx⟩ : ∃ x, x = (s ++ ⟨#[10]⟩ ++ t : ByteArray) := ⟨_, rfl⟩
  have hxs : x.size ≤ 20000 := by rw [hx, cat_size]; omega
  have HX := Lib.hid hx
  clear hx
  go_enter Tryd.func7, Tryd.ntmps7
  go_upto_region 4 with (go_at_call 10; refine (shown_any _ HE.out).mono ?_; rintro e w1 ⟨rfl, hb1⟩)
  go_wp2_with (go_at_call 11; refine (cut_badP s _ (HE.out.below hb1) (by omega) HR.out).mono ?_)
  rintro e w2 ⟨rfl, hb2⟩
  go_wp2_with (go_at_call 11; refine (cut_okP t _ (HE.out.below (bt hb1 hb2)) (by omega) HQ.out rfl).mono ?_)
  rintro e w3 ⟨B, cB, rfl, hTB, hFB, hOB, hb3⟩
  clear hTB hFB hOB
  go_wp2_with (fail)
  rw [← HX.out]
  refine (cut_badP x _ (HE.out.below (bt (bt hb1 hb2) hb3)) hxs (by rw [HX.out]; exact rows_of_bad HR.out)).mono ?_
  rintro e w4 ⟨rfl, hb4⟩
  have hqq : ((p : Int) == (p : Int)) = true := beq_iff_eq.2 rfl
  go_wp2
  go_ret
  exact ⟨rfl, bt (bt (bt hb1 hb2) hb3) hb4⟩
set_option maxRecDepth 100000 in
set_option maxHeartbeats 1500000 in
theorem rows_ob (s t : ByteArray) (w : World) (hE : Errs w) (h1 : s.size ≤ 1000) (h2 : t.size ≤ 1000) (ts : List Tok) (q : Nat) (hr : cutL 0 s.data.toList = .ok ts) (hq : cutL 0 t.data.toList = .bad q) (hqs : q < t.size) : Calls Tryd.prog 7 #[.string s, .string t] w (TruePost w) := by
  have HE := Lib.hid hE
  have HR := Lib.hid hr
  have HQ := Lib.hid hq
  clear hE hr hq
  have hz1 : ¬ (1000 : Int) < (s.size : Int) := by omega
  have hd1 : decide ((1000 : Int) < (s.size : Int)) = false := decide_eq_false hz1
  have hz2 : ¬ (1000 : Int) < (t.size : Int) := by omega
  have hd2 : decide ((1000 : Int) < (t.size : Int)) = false := decide_eq_false hz2
  obtain ⟨x, hx⟩ : ∃ x, x = (s ++ ⟨#[10]⟩ ++ t : ByteArray) := ⟨_, rfl⟩
  have hxs : x.size ≤ 20000 := by rw [hx, cat_size]; omega
  have HX := Lib.hid hx
  clear hx
  go_enter Tryd.func7, Tryd.ntmps7
  go_upto_region 4 with (go_at_call 10; refine (shown_any _ HE.out).mono ?_; rintro e w1 ⟨rfl, hb1⟩)
  go_wp2_with (go_at_call 11; refine (cut_okP s _ (HE.out.below hb1) (by omega) HR.out rfl).mono ?_)
  rintro e w2 ⟨A, cA, rfl, hTA, hFA, hOA, hb2⟩
  clear hTA hFA hOA
  go_wp2_with (go_at_call 11; refine (cut_badP t _ (HE.out.below (bt hb1 hb2)) (by omega) HQ.out).mono ?_)
  rintro e w3 ⟨rfl, hb3⟩
  go_wp2_with (fail)
  rw [← HX.out]
  refine (cut_badP x _ (HE.out.below (bt (bt hb1 hb2) hb3)) hxs (by rw [HX.out]; exact rows_of_ok_bad HR.out HQ.out)).mono ?_
  rintro e w4 ⟨rfl, hb4⟩
  have hqq : (((s.size + 1 + q : Nat) : Int) == (s.size : Int) + 1 + (q : Int)) = true := beq_iff_eq.2 (by omega)
  have hqq2 : ((s.size : Int) + 1 + (q : Int) == (s.size : Int) + 1 + (q : Int)) = true := beq_iff_eq.2 rfl
  go_wp2
  go_ret
  exact ⟨rfl, bt (bt (bt hb1 hb2) hb3) hb4⟩
set_option maxRecDepth 100000 in
set_option maxHeartbeats 1500000 in
theorem rows_oo (s t : ByteArray) (w : World) (hE : Errs w) (h1 : s.size ≤ 1000) (h2 : t.size ≤ 1000) (xs us : List Tok) (e0 : Tok) (hr : cutL 0 s.data.toList = .ok (xs ++ [e0])) (hq : cutL 0 t.data.toList = .ok us) (hxl : xs.length ≤ 1000) (hul : us.length ≤ 1001) (hu0 : 0 < us.length) : Calls Tryd.prog 7 #[.string s, .string t] w (TruePost w) := by
  have HE := Lib.hid hE
  have HR := Lib.hid hr
  have HQ := Lib.hid hq
  clear hE hr hq
  have hz1 : ¬ (1000 : Int) < (s.size : Int) := by omega
  have hd1 : decide ((1000 : Int) < (s.size : Int)) = false := decide_eq_false hz1
  have hz2 : ¬ (1000 : Int) < (t.size : Int) := by omega
  have hd2 : decide ((1000 : Int) < (t.size : Int)) = false := decide_eq_false hz2
  obtain ⟨x, hx⟩ : ∃ x, x = (s ++ ⟨#[10]⟩ ++ t : ByteArray) := ⟨_, rfl⟩
  have hxs : x.size ≤ 20000 := by rw [hx, cat_size]; omega
  have HX := Lib.hid hx
  clear hx
  go_enter Tryd.func7, Tryd.ntmps7
  go_upto_region 4 with (go_at_call 10; refine (shown_any _ HE.out).mono ?_; rintro e w1 ⟨rfl, hb1⟩)
  obtain ⟨i0, hi, hz0, hz3, hz4⟩ := info_parts info34
  go_wp2_with (go_at_call 11; refine (cut_okP s _ (HE.out.below hb1) (by omega) HR.out (List.length_append.trans rfl)).mono ?_)
  rintro e w2 ⟨A, cA, rfl, hTA, hFA, hOA, hb2⟩
  go_wp2_with (go_at_call 11; refine (cut_okP t _ (HE.out.below (bt hb1 hb2)) (by omega) HQ.out rfl).mono ?_)
  rintro e w3 ⟨B, cB, rfl, hTB, hFB, hOB, hb3⟩
  go_wp2_with (fail)
  rw [← HX.out]
  refine (cut_okP x _ (HE.out.below (bt (bt hb1 hb2) hb3)) hxs (by rw [HX.out]; exact rows_of_ok HR.out HQ.out) (show _ = xs.length + us.length by simp)).mono ?_
  rintro e w4 ⟨C, cC, rfl, hTC, hFC, hOC, hb4⟩
  have hTA4 := (hTA.below hb3).below hb4
  have hTB4 := hTB.below hb4
  obtain ⟨ba, oa, rfl, hba⟩ := hTA4.some (by simp)
  obtain ⟨bb, ob, rfl, hbb⟩ := hTB4.some hu0
  have hcap : xs.length + 1 ≤ cA := by
    rcases hOA.2 with ⟨e, _⟩ | ⟨g, cap, cur, e, _, _, hn, _, _, _⟩
    · cases e
    · injection e with _ _ e3
      subst e3
      simpa using hn
  have hb4' := bt (bt (bt hb1 hb2) hb3) hb4
  have HTA := Lib.hid hTA4.left
  have HTB := Lib.hid hTB4
  have HTC := Lib.hid hTC
  clear hTA hTB hTA4 hTB4 hFA hFB hFC hOA hOB hOC hTC
  go_wp2_with (at_builtin; refine wpList_append_own_g rfl _ _ 23 rfl w4.heap.size 34 i0 (.agg #[.int .i64 0, .int .i64 0, .int .i64 0, .string ⟨#[]⟩]) 4 40 Tryd.underlying23 hi hz0 hz3 hz4 rfl (by decide) _ _ _ rfl (own_empty w4 _ (Nat.le_refl _)) ⟨ba, oa, none⟩ xs.length cA (tfl xs) rfl (tfl_len xs) ?c1 (tfl_one xs) ?c3 ?c4 ?c5 ?_)
  case c1 => exact (HTA.out.below (heap1 _ _)).news
  case c3 => unfold maxLen; omega
  case c4 => omega
  case c5 => simp
  intro v1 w5 hown1 hgrow1
  have hb45 : Below w4.heap.size w4 w5 := (heap1 w4 _).grown hgrow1 (by simp) (fun q hq => ((own_empty w4 _ (Nat.le_refl _)).lt q hq).1)
  clear hgrow1
  go_wp2_with (at_builtin; refine wpList_append_own_g rfl _ _ 23 rfl w4.heap.size 34 i0 (.agg #[.int .i64 0, .int .i64 0, .int .i64 0, .string ⟨#[]⟩]) 4 40 Tryd.underlying23 hi hz0 hz3 hz4 rfl (by decide) _ _ _ rfl hown1 ⟨bb, ob, none⟩ us.length cB (tfl us) rfl (tfl_len us) ?d1 (tfl_one us) ?d3 ?d4 ?d5 ?_)
  case d1 => exact (HTB.out.below hb45).news
  case d3 => unfold maxLen; omega
  case d4 => omega
  case d5 => exact hb45.size
  intro v2 w6 hown2 hgrow2
  have hb46 : Below w4.heap.size w4 w6 := hb45.grown hgrow2 hb45.size (fun q hq => (hown1.lt q hq).1)
  obtain ⟨D, cD, hv2, hTD, _⟩ := toks_own (ts := xs ++ us) (v := v2) (w := w6) (base := w4.heap.size) (by rw [tfl_app, List.length_append]; exact hown2)
  rw [List.length_append] at hv2
  subst hv2
  have HTD := Lib.hid hTD
  clear hgrow2 hown1 hown2 hTD HTA HTB
  go_wp2_with (go_at_call 22; refine (like_n C D cC cD _ _ _ _ (HTC.out.below hb46) HTD.out (by simp) (by simp) (by omega) (like_up xs us _)).mono ?_; rintro e w7 ⟨rfl, hb7⟩)
  go_ret
  exact ⟨rfl, bt (bt hb4' hb46) hb7⟩
theorem rows_any (s t : ByteArray) (w : World) (hE : Errs w) : Calls Tryd.prog 7 #[.string s, .string t] w (TruePost w) := by
  by_cases h0 : 1000 < s.size
  · have HE := Lib.hid hE
    clear hE
    have hz : (1000 : Int) < (s.size : Int) := by omega
    go_enter Tryd.func7, Tryd.ntmps7
    go_wp2_with (go_at_call 10; refine (shown_any _ HE.out).mono ?_; rintro e w1 ⟨rfl, hb1⟩)
    go_ret
    exact ⟨rfl, hb1⟩
  · by_cases h1 : 1000 < t.size
    · have HE := Lib.hid hE
      clear hE
      have hz : ¬ (1000 : Int) < (s.size : Int) := by omega
      have hz1 : (1000 : Int) < (t.size : Int) := by omega
      go_enter Tryd.func7, Tryd.ntmps7
      go_wp2_with (go_at_call 10; refine (shown_any _ HE.out).mono ?_; rintro e w1 ⟨rfl, hb1⟩)
      go_ret
      exact ⟨rfl, hb1⟩
    · have es : s.data.toList.length = s.size := by simp
      have et : t.data.toList.length = t.size := by simp
      rcases cutL_form s.data.toList.length 0 s.data.toList (Nat.le_refl _) with ⟨xs, e, hg, hb⟩ | ⟨p, e, p1, p2⟩
      · rcases cutL_form t.data.toList.length 0 t.data.toList (Nat.le_refl _) with ⟨us, e', hg', hb'⟩ | ⟨q, e', q1, q2⟩
        · have b1 := bulk_len hg
          have b2 := bulk_len hg'
          exact rows_oo s t w hE (by omega) (by omega) xs _ _ e e' (by omega) (by simp; omega) (by simp)
        · exact rows_ob s t w hE (by omega) (by omega) _ q e e' (by omega)
      · cases e' : cutL 0 t.data.toList with
        | bad q => exact rows_bb s t w hE (by omega) (by omega) p q e e'
        | ok us => exact rows_bo s t w hE (by omega) (by omega) p us e e'
end Go.Proofs.YtahmadelokofbaaDoor
