/- PROVED here: the contract of binary. No condition but those in each theorem's own head. -/
import Derived.Test.YtdoeinjplgeadaaGreatDoorPs
import Derived.Deep.LoopGhost
import Derived.Deep.Light
namespace Go.Proofs.YtdoeinjplgeadaaGreatDoor
open Go Go.RowKit
open Tr (Bx heap1 bt gen_world ret_int ret_bool cell_same)

/-- a node more, where there is room -/
theorem add_y {X : Nat → Prop} {w : World} {base g c : Nat} {A : Option Addr} {ts : List Tok} {V : Value} {s : St} (h : Pz X w base g A c ts V s) (kd nn pl : Int) (tx : List UInt8) (K0 KK : Option Addr) (n0 c0 kn kc : Nat) (ks : List Int) (hK : Kd w X KK ks) (hkn : kn = ks.length) (hsl : s.nd.length + 1 ≤ s.nx) :
    Calls Tryz.prog 44 #[.pointer (some ⟨g, 0, none⟩), .agg #[.int .i64 kd, .int .i64 nn, .int .i64 pl, .string (bs tx), .slice K0 n0 c0], .slice KK kn kc] w (IPost X base g A c ts V w (addM kd nn pl tx ks s)) := by
  have hx := h.px.nx
  have hl := h.px.len
  refine (add_any h.px h.nd kd nn pl tx K0 KK n0 c0 kn kc ks hK hkn h.hb h.gb h.hA (by omega)).mono ?_
  rintro e w' ⟨V', rfl, hX, hN, hF, hO⟩
  exact .inr ⟨_, _, V', rfl, rfl, ⟨hX, hN, Nat.le_trans h.hb hF.size, h.gb, h.hA, by simp only [List.length_append, List.length_cons, List.length_nil]; exact hsl, h.h40, h.ok, fun b hb => Nat.lt_of_lt_of_le (h.hX b hb) hF.size⟩, ⟨hF, hO⟩⟩
theorem add_y1 {X : Nat → Prop} {w : World} {base g c : Nat} {A : Option Addr} {ts : List Tok} {V : Value} {s : St} (h : Pz X w base g A c ts V s) (kd nn pl : Int) (tx : List UInt8) (K0 : Option Addr) (n0 c0 : Nat) (x1 : Int) (hsl : s.nd.length + 1 ≤ s.nx) :
    Calls Tryz.prog 44 #[.pointer (some ⟨g, 0, none⟩), .agg #[.int .i64 kd, .int .i64 nn, .int .i64 pl, .string (bs tx), .slice K0 n0 c0], .slice (some ⟨w.heap.size, 0, none⟩) 1 1] (w.alloc (.cells #[.int .i64 x1] 3)) (IPost X base g A c ts V w (addM kd nn pl tx [x1] s)) :=
  (add_y (h.below (heap1 w (.cells #[.int .i64 x1] 3))) kd nn pl tx K0 (some ⟨w.heap.size, 0, none⟩) n0 c0 1 1 [x1] (kd_new h.hX [x1]) rfl hsl).mono fun _ _ q => q.after (Fo.below (heap1 _ _))
theorem add_y2 {X : Nat → Prop} {w : World} {base g c : Nat} {A : Option Addr} {ts : List Tok} {V : Value} {s : St} (h : Pz X w base g A c ts V s) (kd nn pl : Int) (tx : List UInt8) (K0 : Option Addr) (n0 c0 : Nat) (x1 x2 : Int) (hsl : s.nd.length + 1 ≤ s.nx) :
    Calls Tryz.prog 44 #[.pointer (some ⟨g, 0, none⟩), .agg #[.int .i64 kd, .int .i64 nn, .int .i64 pl, .string (bs tx), .slice K0 n0 c0], .slice (some ⟨w.heap.size, 0, none⟩) 2 2] (w.alloc (.cells #[.int .i64 x1, .int .i64 x2] 3)) (IPost X base g A c ts V w (addM kd nn pl tx [x1, x2] s)) :=
  (add_y (h.below (heap1 w (.cells #[.int .i64 x1, .int .i64 x2] 3))) kd nn pl tx K0 (some ⟨w.heap.size, 0, none⟩) n0 c0 2 2 [x1, x2] (kd_new h.hX [x1, x2]) rfl hsl).mono fun _ _ q => q.after (Fo.below (heap1 _ _))
theorem add_y3 {X : Nat → Prop} {w : World} {base g c : Nat} {A : Option Addr} {ts : List Tok} {V : Value} {s : St} (h : Pz X w base g A c ts V s) (kd nn pl : Int) (tx : List UInt8) (K0 : Option Addr) (n0 c0 : Nat) (x1 x2 x3 : Int) (hsl : s.nd.length + 1 ≤ s.nx) :
    Calls Tryz.prog 44 #[.pointer (some ⟨g, 0, none⟩), .agg #[.int .i64 kd, .int .i64 nn, .int .i64 pl, .string (bs tx), .slice K0 n0 c0], .slice (some ⟨w.heap.size, 0, none⟩) 3 3] (w.alloc (.cells #[.int .i64 x1, .int .i64 x2, .int .i64 x3] 3)) (IPost X base g A c ts V w (addM kd nn pl tx [x1, x2, x3] s)) :=
  (add_y (h.below (heap1 w (.cells #[.int .i64 x1, .int .i64 x2, .int .i64 x3] 3))) kd nn pl tx K0 (some ⟨w.heap.size, 0, none⟩) n0 c0 3 3 [x1, x2, x3] (kd_new h.hX [x1, x2, x3]) rfl hsl).mono fun _ _ q => q.after (Fo.below (heap1 _ _))
set_option maxRecDepth 100000 in
set_option maxHeartbeats 1500000 in
theorem bin_top {X : Nat → Prop} {w : World} {base g c : Nat} {A : Option Addr} {ts : List Tok} {V : Value} {s : St} {f : Nat} (hI : Rz ts (run ts f)) (h : Pz X w base g A c ts V s) (hne : binM (run ts f) 6 s ≠ .out) : Calls Tryz.prog 115 #[.pointer (some ⟨g, 0, none⟩), .int .i64 6] w (IPost X base g A c ts V w (binM (run ts f) 6 s)) := by
  have e : binM (run ts f) 6 s = run ts f .una s := by unfold binM; rfl
  rw [e] at hne ⊢
  have HI := Lib.hid ((hI.z X w base g A c V s h).1 hne)
  generalize run ts f .una s = R at *
  clear h hI hne e
  go_enter Tryz.func115, Tryz.ntmps115
  go_wp2_with (go_at_call 129; refine (HI.out).mono ?_; rintro e w3 (⟨p, er, hr, rfl, hF⟩ | ⟨x, s3, V3, hr, rfl, hz3, hF3⟩) <;> replace hr := Lib.hid hr)
  · exact ⟨rfl, .inl ⟨p, er, hr.out, rfl, hF⟩⟩
  · go_ret
    exact .inr ⟨x, s3, V3, hr.out, rfl, hz3, hF3⟩
set_option maxRecDepth 100000 in
set_option maxHeartbeats 1500000 in
theorem bin_low {X : Nat → Prop} {w : World} {base g c : Nat} {A : Option Addr} {ts : List Tok} {V : Value} {s : St} {f : Nat} (hI : ∀ f', f' ≤ f → Rz ts (run ts f')) (h : Pz X w base g A c ts V s) (r : Nat) (h1 : 1 ≤ r) (h5 : r ≤ 5) (hne : binM (run ts f) r s ≠ .out) : Calls Tryz.prog 115 #[.pointer (some ⟨g, 0, none⟩), .int .i64 (r : Int)] w (IPost X base g A c ts V w (binM (run ts f) r s)) := by
  obtain ⟨R, HR⟩ : ∃ R, R = binM (run ts f) r s := ⟨_, rfl⟩
  rw [← HR] at hne ⊢
  unfold binM at HR
  rw [if_neg (by omega)] at HR
  have d5 : ¬ ((5 : Int) < (r : Int)) := by omega
  have HB := Lib.hid (((hI f (Nat.le_refl _)).z X w base g A c V s h).2.1 (r + 1) (by omega) (by omega) (Rs.step_in HR hne))
  have ec : ((r + 1 : Nat) : Int) = (r : Int) + 1 := by omega
  rw [ec] at HB
  have HK := Lib.hid (And.intro HR (And.intro hne (And.intro hI (And.intro h.px.nx (And.intro h.ok (And.intro h1 h5))))))
  clear HR hne hI h h1 ec
  go_enter Tryz.func115, Tryz.ntmps115
  go_wp2_with (go_at_call 115; refine HB.out.mono ?_)
  rintro e w1 (⟨p, er, hr, rfl, hF⟩ | ⟨x, s1, V1, hr1, rfl, hz1, hF1⟩) <;> first | replace hr1 := Lib.hid hr1 | replace hr := Lib.hid hr
  · go_wp2
    exact ⟨rfl, .inl ⟨p, er, Rs.step_no HK.out.1 hr.out, rfl, hF⟩⟩
  have HL := Lib.hid (And.intro (Rs.step HK.out.1 hr1.out) (And.intro hz1 hF1))
  clear hz1 hF1 hr1
  go_wp2
  go_loopg [5] f (fun gk a5 wr => ∃ (l : Int) (sl : St) (Vl : Value), a5 = .int .i64 l ∧ R = run ts gk (.loop r [l]) sl ∧ gk ≤ f ∧ Pz X wr base g A c ts Vl sl ∧ Fo w wr g V Vl)
  case atStart => exact ⟨x, s1, V1, rfl, HL.out.1, Nat.le_refl _, HL.out.2.1, HL.out.2.2⟩
  case round =>
    clear HL
    obtain ⟨l, sl, Vl, rfl, hR, hg, hz, hF⟩ := hrel
    cases gk with
    | zero => exact absurd hR HK.out.2.1
    | succ k =>
      replace hR : R = loopM ts (run ts k) r [l] sl := hR
      unfold loopM at hR
      dsimp only at hR
      have hf := field36_3 (tkn ts sl)
      have HC := Lib.hid (token_z hz)
      have HO := Lib.hid (fun w' => rowOf_any (w := w') (tkn ts sl).s)
      have HG := Lib.hid (And.intro hg (And.intro hz hF))
      by_cases q : rowOf (tkn ts sl).s = r
      · rw [if_pos q] at hR
        have dq : ((rowOf (tkn ts sl).s : Int) == (r : Int)) = true := by rw [q]; simp
        have HT := Lib.hid (fun w' (p : Below wr.heap.size wr w') => take_z (hz.below p) (.inr (rowOf_ne (by have := HK.out.2.2.2.2.2.1; omega))))
        have HP := Lib.hid (fun w' (p : Pz X w' base g A c ts Vl (takeS sl)) => ((HK.out.2.2.1 k (by omega)).z X w' base g A c Vl (takeS sl) p).2.1 (r + 1) (by omega) (by omega) (Rs.step_in hR HK.out.2.1))
        have ec : ((r + 1 : Nat) : Int) = (r : Int) + 1 := by omega
        rw [ec] at HP
        clear q ec hg hz hF
        generalize hv : tokV (tkn ts sl) = v at hf HC
        generalize tkn ts sl = t at *
        unfold tokV at HT hv
        have HR := Lib.hid hR
        clear hR hv
        generalize (rowOf t.s : Int) = ro at *
        go_wp2_with (first | (go_at_call 72; refine HC.out.mono ?_; rintro e w2 ⟨rfl, hb2⟩) | (go_at_call 130; refine (HO.out _).mono ?_; rintro e w3 ⟨rfl, hb3⟩) | (go_at_call 69; refine (HT.out _ (bt hb2 hb3)).mono ?_; rintro e w4 ⟨rfl, hz4, hF4⟩) | (go_at_call 115; refine (HP.out _ (hz4.below (heap1 _ _))).mono ?_))
        rintro e w5 (⟨p, er, hr, rfl, hF⟩ | ⟨x2, s2, V2, hr2, rfl, hz5, hF5⟩) <;> first | replace hr2 := Lib.hid hr2 | replace hr := Lib.hid hr
        · go_wp2
          exact ⟨rfl, .inl (np_after (((HG.out.2.2.trans (Fo.below (bt hb2 hb3))).trans hF4).trans (Fo.below (heap1 _ _))) (Rs.step_no HR.out hr.out) hF)⟩
        have hT := (hz4.box (l := [.int .i64 (t.k : Int), .int .i64 t.n, .int .i64 (t.p : Int), .string (bs t.s)]) hF5).1
        have t2 := (hT.cell 2).trans rfl
        have t3 := (hT.cell 3).trans rfl
        have hsl : s2.nd.length + 1 ≤ s2.nx := by
          have a := ((run_nk ts k _).2.1 (r + 1) _ _ hr2.out).1.1
          have b := HG.out.2.1.hn
          have c1 : (takeS sl).nd = sl.nd := rfl
          have c2 : (takeS sl).nx = sl.nx + 1 := rfl
          rw [c1, c2] at a
          omega
        have HA := Lib.hid (add_y2 hz5 27 0 (t.p : Int) t.s none 0 0 l x2 hsl)
        have HF := Lib.hid ((((HG.out.2.2.trans (Fo.below (bt hb2 hb3))).trans hF4).trans (Fo.below (heap1 _ _))).trans hF5)
        have HR2 := Lib.hid (Rs.step HR.out hr2.out)
        clear hT hz5 hF5 hsl hr2
        go_wp2_with (go_at_call 44; refine HA.out.mono ?_; rintro e w6 (⟨p, er, hr, rfl, hF⟩ | ⟨x3, s3, V3, hr3, rfl, hz6, hF6⟩) <;> first | replace hr3 := Lib.hid hr3 | replace hr := Lib.hid hr)
        · cases hr.out
        · go_roundg k
          case measure => go_light; omega
          case rel =>
            go_light
            exact ⟨x3, s3, V3, rfl, Rs.step HR2.out hr3.out, by have := HG.out.1; omega, hz6, HF.out.trans hF6⟩
      · rw [if_neg q] at hR
        have dq : ((rowOf (tkn ts sl).s : Int) == (r : Int)) = false := by rw [beq_eq_false_iff_ne]; omega
        clear q hg hz hF
        generalize tokV (tkn ts sl) = v at hf HC
        generalize tkn ts sl = t at *
        have HR := Lib.hid hR
        clear hR
        generalize (rowOf t.s : Int) = ro at *
        go_wp2_with (first | (go_at_call 72; refine HC.out.mono ?_; rintro e w2 ⟨rfl, hb2⟩) | (go_at_call 130; refine (HO.out _).mono ?_; rintro e w3 ⟨rfl, hb3⟩))
        go_ret
        exact .inr ⟨l, sl, Vl, HR.out, rfl, HG.out.2.1.below (bt hb2 hb3), HG.out.2.2.trans (Fo.below (bt hb2 hb3))⟩
theorem bin_z {X : Nat → Prop} {w : World} {base g c : Nat} {A : Option Addr} {ts : List Tok} {V : Value} {s : St} {f : Nat} (hI : ∀ f', f' ≤ f → Rz ts (run ts f')) (h : Pz X w base g A c ts V s) (r : Nat) (h1 : 1 ≤ r) (h6 : r ≤ 6) (hne : binM (run ts f) r s ≠ .out) : Calls Tryz.prog 115 #[.pointer (some ⟨g, 0, none⟩), .int .i64 (r : Int)] w (IPost X base g A c ts V w (binM (run ts f) r s)) := by
  by_cases q : r = 6
  · subst q; exact bin_top (hI f (Nat.le_refl _)) h hne
  · exact bin_low hI h r h1 (by omega) hne
end Go.Proofs.YtdoeinjplgeadaaGreatDoor
