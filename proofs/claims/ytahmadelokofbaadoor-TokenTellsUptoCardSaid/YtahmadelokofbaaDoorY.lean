/- PROVED here: the walk of TokenBack. No condition but those in each theorem's own head. -/
import Derived.Test.YtahmadelokofbaaDoorW
import Derived.Test.YtahmadelokofbaaDoorX
namespace Go.Proofs.YtahmadelokofbaaDoor
open Go Go.RowKit

theorem rtx_raw {xs : List Tok} (hg : ∀ t ∈ xs, t.k ≠ 5) (n : Nat) : rtx ((xs ++ [endT n]).map raw) = texts xs := by
  unfold rtx texts
  rw [List.map_append, List.filter_append, List.map_append]
  have e1 : (xs.map raw).filter (fun t => t.k != 5) = xs.map raw := by
    rw [List.filter_eq_self]
    intro x hx
    obtain ⟨t, ht, rfl⟩ := List.mem_map.1 hx
    have := hg t ht
    simp only [raw, bne_iff_ne]
    omega
  rw [e1, List.map_map]
  have e2 : ([endT n].map raw).filter (fun t => t.k != 5) = [] := rfl
  rw [e2, List.map_nil, List.append_nil]
  rfl
theorem good5 {xs : List Tok} (hg : ∀ t ∈ xs, GT t) : ∀ t ∈ xs, t.k ≠ 5 := fun t ht => by
  have := (hg t ht).1
  have h2 := tokK_lt t.s
  omega
theorem strip_parts {us xs : List Tok} (h : us.map strip = xs.map strip) : us.length = xs.length ∧ texts us = texts xs ∧ us.map (·.k) = xs.map (·.k) := by
  refine ⟨by have := congrArg List.length h; simpa using this, ?_, ?_⟩
  · have := congrArg (List.map fun x : Nat × Int × List UInt8 => x.2.2) h
    rw [List.map_map, List.map_map] at this
    exact this
  · have := congrArg (List.map fun x : Nat × Int × List UInt8 => x.1) h
    rw [List.map_map, List.map_map] at this
    exact this
theorem k5_of {us xs : List Tok} (h : us.map (·.k) = xs.map (·.k)) (hg : ∀ t ∈ xs, t.k ≠ 5) : ∀ t ∈ us, t.k ≠ 5 := fun t ht => by
  have : t.k ∈ us.map (·.k) := List.mem_map.2 ⟨t, ht, rfl⟩
  rw [h] at this
  obtain ⟨u, hu, e⟩ := List.mem_map.1 this
  have := hg u hu
  omega
theorem joinP (A : Option Addr) (c n : Nat) (ts : List Tok) (y : ByteArray) (l : List (List UInt8)) (w : World) (hT : Toks w A ts) (hn : ts.length = n) (hr : rtx (ts.map raw) = l) (hy : bs (Lib.join l [32]) = y) (hl : n ≤ 20001) (hs : y.size ≤ 20000) :
    Calls Tryd.prog 20 #[.slice A n c] w fun e w' => e = .returned (.string y) ∧ Below w.heap.size w w' := by
  have hlen : (Lib.join l [32]).length ≤ 20000 := by rw [← hy, bs_size] at hs; exact hs
  have := join_any A c (ts.map raw) w hT.raw (by simp; omega) (by rw [hr]; omega)
  rw [List.length_map, hn] at this
  refine this.mono ?_
  rintro e w' ⟨rfl, hb⟩
  exact ⟨by rw [hr, hy], hb⟩
set_option maxRecDepth 100000 in
set_option maxHeartbeats 1500000 in
theorem back_bad (s : ByteArray) (w : World) (hE : Errs w) (h2 : s.size ≤ 2000) (p : Nat) (hr : cutL 0 s.data.toList = .bad p) (hp : p < s.size) : Calls Tryd.prog 5 #[.string s] w (TruePost w) := by
  have HE := Lib.hid hE
  have HR := Lib.hid hr
  clear hE hr
  have hz : ¬ (2000 : Int) < (s.size : Int) := by omega
  have hd : decide ((2000 : Int) < (s.size : Int)) = false := decide_eq_false hz
  have q1 : (0 : Int) ≤ (p : Int) := by omega
  have q2 : (p : Int) < (s.size : Int) := by omega
  go_enter Tryd.func5, Tryd.ntmps5
  go_upto_region 4 with (go_at_call 10; refine (shown_any _ HE.out).mono ?_; rintro e w1 ⟨rfl, hb1⟩)
  go_wp2_with (go_at_call 11; refine (cut_badP s _ (HE.out.below hb1) (by omega) HR.out).mono ?_)
  rintro e w2 ⟨rfl, hb2⟩
  go_wp2
  go_ret
  exact ⟨by simp, bt hb1 hb2⟩
set_option maxRecDepth 100000 in
set_option maxHeartbeats 3000000 in
theorem back_ok (s : ByteArray) (w : World) (hE : Errs w) (h2 : s.size ≤ 2000) (ts us : List Tok) (n : Nat) (y : ByteArray) (l : List (List UInt8)) (hr : cutL 0 s.data.toList = .ok ts) (hn : ts.length = n) (hun : us.length = n) (hl : n ≤ 2001)
    (hrt : rtx (ts.map raw) = l) (hru : rtx (us.map raw) = l) (hy : bs (Lib.join l [32]) = y) (hys : y.size ≤ 2 * s.size) (hc : cutL 0 y.data.toList = .ok us) (hL : Like ts us) : Calls Tryd.prog 5 #[.string s] w (TruePost w) := by
  have HE := Lib.hid hE
  have HR := Lib.hid hr
  have HC := Lib.hid hc
  have HN := Lib.hid hn
  have HU := Lib.hid hun
  have HL := Lib.hid hL
  have H1 := Lib.hid hrt
  have H2 := Lib.hid hru
  have HY := Lib.hid hy
  clear hE hr hc hn hun hL hrt hru hy
  have hz : ¬ (2000 : Int) < (s.size : Int) := by omega
  have hd : decide ((2000 : Int) < (s.size : Int)) = false := decide_eq_false hz
  have q1 : (y.toList == y.toList) = true := beq_iff_eq.2 rfl
  have q2 : (y.size : Int) ≤ 2 * (s.size : Int) := by omega
  go_enter Tryd.func5, Tryd.ntmps5
  go_upto_region 4 with (go_at_call 10; refine (shown_any _ HE.out).mono ?_; rintro e w1 ⟨rfl, hb1⟩)
  go_wp2_with (go_at_call 11; refine (cut_okP s _ (HE.out.below hb1) (by omega) HR.out HN.out).mono ?_)
  rintro e w2 ⟨A, cA, rfl, hTA, _, _, hb2⟩
  have hb12 := bt hb1 hb2
  have HTA := Lib.hid hTA
  clear hTA
  go_wp2_with (go_at_call 20; refine (joinP A cA n ts y l _ HTA.out HN.out H1.out HY.out (by omega) (by omega)).mono ?_)
  rintro e w3 ⟨rfl, hb3⟩
  have hb13 := bt hb12 hb3
  go_wp2_with (go_at_call 11; refine (cut_okP y _ (HE.out.below hb13) (by omega) HC.out HU.out).mono ?_)
  rintro e w4 ⟨B, cB, rfl, hTB, _, _, hb4⟩
  have hb14 := bt hb13 hb4
  have HTB := Lib.hid hTB
  have HTA4 := Lib.hid ((HTA.out.below hb3).below hb4)
  clear hTB
  go_wp2_with (go_at_call 22; refine (like_n A B cA cB n ts us _ HTA4.out HTB.out HN.out HU.out (by omega) HL.out).mono ?_)
  rintro e w5 ⟨rfl, hb5⟩
  have hb15 := bt hb14 hb5
  have HTB5 := Lib.hid (HTB.out.below hb5)
  go_wp2_with (go_at_call 20; refine (joinP B cB n us y l _ HTB5.out HU.out H2.out HY.out (by omega) (by omega)).mono ?_)
  rintro e w6 ⟨rfl, hb6⟩
  go_wp2
  go_ret
  exact ⟨by simp, bt hb15 hb6⟩
theorem back_any (s : ByteArray) (w : World) (hE : Errs w) : Calls Tryd.prog 5 #[.string s] w (TruePost w) := by
  by_cases h0 : 2000 < s.size
  · have HE := Lib.hid hE
    clear hE
    have hz : (2000 : Int) < (s.size : Int) := by omega
    go_enter Tryd.func5, Tryd.ntmps5
    go_wp2_with (go_at_call 10; refine (shown_any _ HE.out).mono ?_; rintro e w1 ⟨rfl, hb1⟩)
    go_ret
    exact ⟨rfl, hb1⟩
  · have es : s.data.toList.length = s.size := by simp
    rcases cutL_form s.data.toList.length 0 s.data.toList (Nat.le_refl _) with ⟨xs, e, hg, hb⟩ | ⟨p, e, p1, p2⟩
    · have b1 := bulk_len hg
      obtain ⟨us, u1, u2⟩ := cut_join xs 0 hg
      obtain ⟨v1, v2, v3⟩ := strip_parts u2
      have hj := join_len2 xs hg
      refine back_ok s w hE (by omega) _ _ (xs.length + 1) (bs (Lib.join (texts xs) [32])) (texts xs) e (by simp) ?_ (by omega) (rtx_raw (good5 hg) _) ?_ rfl (by rw [bs_size]; omega) (by rw [bs_list]; exact u1) ?_
      · simp [v1]
      · rw [rtx_raw (k5_of v3 (good5 hg)), v2]
      · unfold Like
        rw [List.map_append, List.map_append, u2]; rfl
    · exact back_bad s w hE (by omega) p e (by omega)
end Go.Proofs.YtahmadelokofbaaDoor
