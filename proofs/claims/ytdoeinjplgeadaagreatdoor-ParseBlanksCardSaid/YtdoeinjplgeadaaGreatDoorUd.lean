/- PROVED here: the walk of ParseBlanks. No condition but those in each theorem's own head. -/
import Derived.Test.YtdoeinjplgeadaaGreatDoorUc
import Derived.Test.YtdoeinjplgeadaaGreatDoorRd
namespace Go.Proofs.YtdoeinjplgeadaaGreatDoor
open Go Go.RowKit
open Tr (Bx heap1 bt gen_world ret_int ret_bool cell_same Nds)

def WNoB (p er : Int) (w : World) (e : Ending) (w' : World) : Prop := e = .returned (.tuple #[.agg #[.slice none 0 0, .int .i64 0], .int .i64 p, .int .i64 er]) ∧ Below w.heap.size w w'
theorem WNoB.of {p e : Nat} {a : Ans} {w w' : World} {v : Ending} (ha : a = .bad p e) (h : TreePost a w v w') : WNoB p e w v w' := by
  subst ha
  obtain ⟨A, n, c, r, m, p', er', rfl, hb, rfl, rfl, rfl, rfl, rfl, rfl, rfl⟩ := h
  exact ⟨rfl, hb⟩
def WCutT (us : List Tk.Tok) (m : Nat) (w : World) (e : Ending) (w' : World) : Prop := ∃ A c, e = .returned (.tuple #[.slice A m c, .int .i64 0, .int .i64 0]) ∧ Below w.heap.size w w' ∧ Tk.Toks w' A us
theorem blanks_facts {s : ByteArray} {us : List Tk.Tok} (hc : Tk.cutR s.data.toList 0 = .ok us) (hs : s.size ≤ 1500) : ∃ (y : ByteArray) (x : List (List UInt8)) (l l' l'' : List Tr.Nd) (n : Nat) (r er : Int), Tk.rtx (us.map Tk.raw) = x ∧ Tk.bs (Lib.join x [32]) = y ∧ y.size ≤ 3000 ∧ n = l.length ∧ n ≤ 4000 ∧ LikeN l l' ∧ LikeN l l'' ∧ (∀ x ∈ l, x.ks.length ≤ 4000) ∧
    (∀ w e w', TreePost (ansOf progR s.data.toList) w e w' → WT l n r er w e w') ∧ (∀ w e w', TreePost (ansOf progR y.data.toList) w e w' → WT l' n r er w e w') ∧ (∀ w e w', TreePost (ansOf progR ([35, 32, 120, 10] ++ s.data.toList)) w e w' → WT l'' n r er w e w') := by
  obtain ⟨xs, n0, e0, h5, hj, vs, hv, hvs⟩ := Tk.cut_parts hc
  have hb := Tk.cut_behind s.data.toList
  rw [hc] at hb
  obtain ⟨ws, hw, hws⟩ := Tk.noP_ok (x := us.map Tk.strip) hb
  have a1 := ans_like (fun ts us h => prog_er h) hc (l' := (Tk.bs (Lib.join (Tk.texts xs) [32])).data.toList) (us' := vs) (by rw [Tk.bs_list]; exact hv) hvs.symm
  have a2 := ans_like (fun ts us h => prog_er h) hc hw hws.symm
  obtain ⟨l, l', l'', n, r, er, q1, q2, q3, q4, q5, q6, q7⟩ := a1.trees a2
  have hl : s.data.toList.length = s.size := by simp
  have hyl : (Tk.bs (Lib.join (Tk.texts xs) [32])).size = (Lib.join (Tk.texts xs) [32]).length := rfl
  refine ⟨_, _, l, l', l'', n, r, er, by rw [e0]; exact Tk.rtx_raw h5 n0, rfl, by rw [hyl]; omega, q1, ?_, q2, q3, ?_, q4, q5, q6⟩
  · rcases q7 with ⟨nd, k, e1, e2⟩ | e1
    · have := (prog_right hc e1).few
      rw [q1, e2, List.length_map]; exact this
    · rw [q1, e1]; exact Nat.zero_le _
  · rcases q7 with ⟨nd, k, e1, e2⟩ | e1
    · rw [e2]; exact (prog_right hc e1).kids
    · rw [e1]; intro x hx; cases hx
set_option maxRecDepth 100000 in
set_option maxHeartbeats 2500000 in
theorem parseBlanks_any (s : ByteArray) (w : World) (hE : Tk.Errs w) : Calls Tryz.prog 5 #[.string s] w (VPost (.bool true) w) := by
  have HS := Lib.hid (shown_any w hE)
  by_cases hs : s.size ≤ 1500
  case neg =>
    have hs2 : (1500 : Int) < (s.size : Int) := by omega
    clear hE hs
    go_enter Tryz.func5, Tryz.ntmps5
    go_wp2_with (go_at_call 8; refine HS.out.mono ?_; rintro e w1 ⟨rfl, hb1⟩)
    go_ret
    exact ⟨rfl, hb1⟩
  have hs2 : ¬ (1500 : Int) < (s.size : Int) := by omega
  cases hc : Tk.cutR s.data.toList 0 with
  | bad p =>
    have HP := Lib.hid (fun w' (q : Below w.heap.size w w') => (program_any s w' (hE.below q) (by omega)).mono fun _ _ r => WNoB.of (ansOf_cut hc) r)
    have HC := Lib.hid (fun w' (q : Below w.heap.size w w') => show Calls Tryz.prog 13 #[.string s] w' (VPost (.tuple #[.slice none 0 0, .int .i64 (p : Int), .int .i64 2]) w') from (Tk.cut_any s w' (hE.below q) (by omega)).mono (by
      rintro e w' ⟨q1, q2⟩
      rw [hc] at q2
      exact ⟨q2, q1⟩))
    clear hc hE
    go_enter Tryz.func5, Tryz.ntmps5
    go_wp2_with (first | (go_at_call 8; refine HS.out.mono ?_; rintro e w1 ⟨rfl, hb1⟩) | (go_at_call 9; refine (HP.out _ hb1).mono ?_; rintro e w2 ⟨rfl, hb2⟩) | (go_at_call 13; refine (HC.out _ (bt (bt hb1 hb2) (heap1 _ _))).mono ?_; rintro e w3 ⟨rfl, hb3⟩))
    go_ret
    exact ⟨rfl, bt (bt (bt hb1 hb2) (heap1 _ _)) hb3⟩
  | ok us =>
    obtain ⟨y, x, l, l', l'', n, r, er, f1, f2, f3, f4, f5, f6, f7, f8, f9, f10, f11⟩ := blanks_facts hc hs
    have hl := ts_len hc
    have hsz : s.data.toList.length = s.size := by simp
    obtain ⟨m, hm⟩ : ∃ m, us.length = m := ⟨_, rfl⟩
    obtain ⟨z, hz⟩ : ∃ z : ByteArray, z = ⟨#[35, 32, 120, 10]⟩ ++ s := ⟨_, rfl⟩
    have hzl : z.data.toList = [35, 32, 120, 10] ++ s.data.toList := by rw [hz]; simp
    have hzs : z.size = s.size + 4 := by rw [hz, ByteArray.size_append]; show 4 + s.size = _; omega
    have HP := Lib.hid (fun w' (q : Below w.heap.size w w') => (program_any s w' (hE.below q) (by omega)).mono (f9 _))
    have HP2 := Lib.hid (fun w' (q : Below w.heap.size w w') => (program_any y w' (hE.below q) (by omega)).mono (f10 _))
    have HP3 := Lib.hid (fun w' (q : Below w.heap.size w w') => show Calls Tryz.prog 9 #[.string z] w' _ from (program_any z w' (hE.below q) (by omega)).mono (by rw [hzl]; exact f11 _))
    have HJ := Lib.hid (fun A c w' (q : Tk.Toks w' A us) => Tk.joinP A c m us y x w' q hm f1 f2 (by omega) (by omega))
    have HC := Lib.hid (fun w' (q : Below w.heap.size w w') => show Calls Tryz.prog 13 #[.string s] w' (WCutT us m w') from (Tk.cut_any s w' (hE.below q) (by omega)).mono (by
      rintro e w' ⟨q1, q2⟩
      rw [hc] at q2
      obtain ⟨A, c, q3, q4, _⟩ := q2
      rw [hm] at q3
      exact ⟨A, c, q3, q1, q4⟩))
    have HS1 := Lib.hid (fun w' A B c d (hA : Nds w' A l) (hB : Nds w' B l') => same_any A B n c d r l l' w' hA hB f6 f4 f5 f8)
    have HS2 := Lib.hid (fun w' A B c d (hA : Nds w' A l) (hB : Nds w' B l'') => same_any A B n c d r l l'' w' hA hB f7 f4 f5 f8)
    have HZ := Lib.hid hz
    have d0 : (er == er) = true := by simp
    clear hc hE hl hsz hm f1 f2 f3 f4 f5 f6 f7 f8 f9 f10 f11 hz hzl hzs
    go_enter Tryz.func5, Tryz.ntmps5
    go_wp2_with (first | (go_at_call 8; refine HS.out.mono ?_; rintro e w1 ⟨rfl, hb1⟩) | (go_at_call 9; refine (HP.out _ hb1).mono ?_))
    rintro e w2 ⟨A, c, p, rfl, hb2, hNd⟩
    have HB := Lib.hid (Bx.new w2 25 [.slice A n c, .int .i64 r])
    have HN := Lib.hid (hNd.below (heap1 w2 (.cells #[.slice A n c, .int .i64 r] 25)))
    have HW := Lib.hid (bt (bt hb1 hb2) (heap1 w2 (.cells #[.slice A n c, .int .i64 r] 25)))
    clear hb1 hb2 hNd
    go_wp2_with (go_at_call 13; refine (HC.out _ HW.out).mono ?_)
    rintro e w3 ⟨A3, c3, rfl, hb3, hT⟩
    have HB3 := Lib.hid (HB.out.below hb3 HB.out.lt)
    have HN3 := Lib.hid (HN.out.below hb3)
    have HW3 := Lib.hid (bt HW.out hb3)
    have HT := Lib.hid hT
    clear HB HN HW hb3 hT
    go_wp2_with (go_at_call 14; refine (HJ.out _ _ _ HT.out).mono ?_)
    rintro e w4 ⟨rfl, hb4⟩
    have HB4 := Lib.hid (HB3.out.below hb4 HB3.out.lt)
    have HN4 := Lib.hid (HN3.out.below hb4)
    have HW4 := Lib.hid (bt HW3.out hb4)
    clear HB3 HN3 HW3 hb4
    go_wp2_with (go_at_call 9; refine (HP2.out _ HW4.out).mono ?_)
    rintro e w5 ⟨A5, c5, p5, rfl, hb5, hNd5⟩
    have hbA := heap1 w5 (.cells #[.slice A5 n c5, .int .i64 r] 25)
    have HX5 := Lib.hid (Bx.new w5 25 [.slice A5 n c5, .int .i64 r])
    have HM5 := Lib.hid (hNd5.below hbA)
    have HB5 := Lib.hid ((HB4.out.below hb5 HB4.out.lt).below hbA (Nat.lt_of_lt_of_le HB4.out.lt hb5.size))
    have HN5 := Lib.hid ((HN4.out.below hb5).below hbA)
    have HW5 := Lib.hid (bt (bt HW4.out hb5) hbA)
    clear HB4 HN4 HW4 hb5 hNd5 hbA
    go_wp2_with fail
    rw [← HZ.out]
    go_wp2_with (go_at_call 9; refine (HP3.out _ HW5.out).mono ?_)
    rintro e w6 ⟨A6, c6, p6, rfl, hb6, hNd6⟩
    have hbA := heap1 w6 (.cells #[.slice A6 n c6, .int .i64 r] 25)
    have hX6 := Bx.new w6 25 [.slice A6 n c6, .int .i64 r]
    have hM6 := hNd6.below hbA
    have hX5 := (HX5.out.below hb6 HX5.out.lt).below hbA (Nat.lt_of_lt_of_le HX5.out.lt hb6.size)
    have hM5 := (HM5.out.below hb6).below hbA
    have hB6 := (HB5.out.below hb6 HB5.out.lt).below hbA (Nat.lt_of_lt_of_le HB5.out.lt hb6.size)
    have hN6 := (HN5.out.below hb6).below hbA
    have HW6 := Lib.hid (bt (bt HW5.out hb6) hbA)
    have a0 := (hB6.cell 0).trans rfl
    have a1 := (hB6.cell 1).trans rfl
    have b0 := (hX5.cell 0).trans rfl
    have b1 := (hX5.cell 1).trans rfl
    have c0 := (hX6.cell 0).trans rfl
    have c1 := (hX6.cell 1).trans rfl
    have HH := Lib.hid (And.intro hB6 (And.intro hX6 (And.intro hN6 (And.intro hM5 hM6))))
    clear HX5 HM5 HB5 HN5 HW5 hb6 hNd6 hX6 hM6 hX5 hM5 hB6 hN6 hbA
    go_wp2_with (go_at_call 15; refine (HS1.out _ _ _ _ _ HH.out.2.2.1 HH.out.2.2.2.1).mono ?_)
    rintro e w7 ⟨rfl, hb7⟩
    have hB7 := HH.out.1.below hb7 HH.out.1.lt
    have hX7 := HH.out.2.1.below hb7 HH.out.2.1.lt
    have HN7 := Lib.hid (HH.out.2.2.1.below hb7)
    have HM7 := Lib.hid (HH.out.2.2.2.2.below hb7)
    have HW7 := Lib.hid (bt HW6.out hb7)
    clear a0 a1 b0 b1 c0 c1 HH HW6
    have a0 := (hB7.cell 0).trans rfl
    have a1 := (hB7.cell 1).trans rfl
    have c0 := (hX7.cell 0).trans rfl
    have c1 := (hX7.cell 1).trans rfl
    clear hB7 hX7 hb7
    go_wp2_with (go_at_call 15; refine (HS2.out _ _ _ _ _ HN7.out HM7.out).mono ?_; rintro e w8 ⟨rfl, hb8⟩)
    go_ret
    exact ⟨by first | rfl | simp, bt HW7.out hb8⟩
end Go.Proofs.YtdoeinjplgeadaaGreatDoor
