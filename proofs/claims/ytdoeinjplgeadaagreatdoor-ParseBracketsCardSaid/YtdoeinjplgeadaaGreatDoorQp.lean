/- PROVED here: the contract of Nest. No condition but those in each theorem's own head. -/
import Derived.Test.YtdoeinjplgeadaaGreatDoorQo
namespace Go.Proofs.YtdoeinjplgeadaaGreatDoor
open Go Go.RowKit
open Tr (Bx heap1 bt gen_world ret_int ret_bool cell_same)

theorem ans_prog {l : List UInt8} {p e : Nat} (h : ansOf progR l = .bad p e) : e ≠ 0 := by
  unfold ansOf at h
  cases hc : Tk.cutR l 0 with
  | bad q => rw [hc] at h; injection h with _ h2; omega
  | ok ts =>
    rw [hc] at h
    replace h : (match progR (ts.map cvT) with | .out => Ans.bad 0 0 | .no p e => .bad p e | .ok _ s => if 4000 < s.nd.length then .bad 0 8 else if 40 < Tr.dpt (s.nd.map cvN) ((s.nd.length : Int) - 1) then .bad 0 6 else .good s.nd s.mo) = .bad p e := h
    rcases (progR_ok (ts_ok hc)).cases with ⟨v, s', q, _⟩ | ⟨p', e', q, _, q2⟩
    · rw [q] at h
      replace h : (if 4000 < s'.nd.length then Ans.bad 0 8 else if 40 < Tr.dpt (s'.nd.map cvN) ((s'.nd.length : Int) - 1) then .bad 0 6 else .good s'.nd s'.mo) = .bad p e := h
      split at h
      · injection h with _ h2; omega
      split at h
      · injection h with _ h2; omega
      · cases h
    · rw [q] at h
      injection h with _ h2; omega
theorem ans_expr {l : List UInt8} {p e : Nat} (h : ansOf exprR l = .bad p e) : e ≠ 0 := by
  unfold ansOf at h
  cases hc : Tk.cutR l 0 with
  | bad q => rw [hc] at h; injection h with _ h2; omega
  | ok ts =>
    rw [hc] at h
    replace h : (match exprR (ts.map cvT) with | .out => Ans.bad 0 0 | .no p e => .bad p e | .ok _ s => if 4000 < s.nd.length then .bad 0 8 else if 40 < Tr.dpt (s.nd.map cvN) ((s.nd.length : Int) - 1) then .bad 0 6 else .good s.nd s.mo) = .bad p e := h
    rcases (exprR_ok (ts_ok hc)).cases with ⟨v, s', q, _⟩ | ⟨p', e', q, _, q2⟩
    · rw [q] at h
      replace h : (if 4000 < s'.nd.length then Ans.bad 0 8 else if 40 < Tr.dpt (s'.nd.map cvN) ((s'.nd.length : Int) - 1) then .bad 0 6 else .good s'.nd s'.mo) = .bad p e := h
      split at h
      · injection h with _ h2; omega
      split at h
      · injection h with _ h2; omega
      · cases h
    · rw [q] at h
      injection h with _ h2; omega
def nestOf (a b : Ans) : Int := match a with
  | .good _ m => (m : Int)
  | .bad _ _ => match b with
    | .good _ m => (m : Int)
    | .bad _ _ => -1
theorem set5F {w1 : World} {b : Nat} {u0 u1 u2 u3 u4 : Value} (hB : Bx w1 b 51 [u0, u1, u2, u3, u4]) (v0 v1 v2 v3 v4 : Value) :
    Bx (((((w1.setCell ⟨b, 0, none⟩ v0).setCell ⟨b, 1, none⟩ v1).setCell ⟨b, 2, none⟩ v2).setCell ⟨b, 3, none⟩ v3).setCell ⟨b, 4, none⟩ v4) b 51 [v0, v1, v2, v3, v4] := by
  have hE := ((((hB.set_ 0 v0).set_ 1 v1).set_ 2 v2).set_ 3 v3).set_ 4 v4
  simp only [List.set_cons_zero, List.set_cons_succ] at hE
  exact hE
set_option maxRecDepth 100000 in
set_option maxHeartbeats 1500000 in
theorem nest_any (s : ByteArray) (w : World) (hE : Tk.Errs w) (hs : s.size ≤ 20000) : Calls Tryz.prog 17 #[.string s] w (VPost (.int .i64 (nestOf (ansOf progR s.data.toList) (ansOf exprR s.data.toList))) w) := by
  have HC := Lib.hid ((read22 s w hE hs).mono fun _ _ q => q.g)
  have HD := Lib.hid (fun w' (q : Below w.heap.size w w') => (read35 s w' (hE.below q) hs).mono fun _ _ q => q.g)
  have ha := fun p e (h : ansOf progR s.data.toList = .bad p e) => ans_prog h
  have hb := fun p e (h : ansOf exprR s.data.toList = .bad p e) => ans_expr h
  generalize ansOf progR s.data.toList = a at *
  generalize ansOf exprR s.data.toList = b at *
  clear hE hs
  cases a with
  | good nd nest =>
    clear ha hb HD
    go_enter Tryz.func17, Tryz.ntmps17
    go_wp2_with (go_at_call 21; refine HC.out.mono ?_)
    rintro e w1 ⟨A, n, c, r, m, p, er, rfl, hb1, hA⟩
    obtain ⟨rfl, rfl, rfl, rfl, rfl, _⟩ := hA
    have HB := Lib.hid hb1
    clear hb1
    go_wp2
    go_ret
    exact ⟨rfl, bt HB.out (heap1 _ _)⟩
  | bad p0 e0 =>
    have h0 := ha p0 e0 rfl
    clear ha
    have d0 : (((e0 : Int)) != 0) = true := by rw [bne_iff_ne]; omega
    go_enter Tryz.func17, Tryz.ntmps17
    go_wp2_with (go_at_call 21; refine HC.out.mono ?_)
    rintro e w1 ⟨A, n, c, r, m, p, er, rfl, hb1, hA⟩
    obtain ⟨rfl, rfl, rfl, rfl, rfl, rfl, rfl⟩ := hA
    have HB := Lib.hid (bt hb1 (heap1 w1 (.cells #[.slice none 0 0, .int .i64 0, .int .i64 0, .int .i64 (p0 : Int), .int .i64 (e0 : Int)] 51)))
    have HD1 := Lib.hid (HD.out _ HB.out)
    have hlt := hb1.size
    clear hb1 h0 HD
    go_wp2_with (go_at_call 21; refine HD1.out.mono ?_)
    rintro e w2 ⟨A, n, c, r, m, p, er, rfl, hb2, hA⟩
    have hB2 := (Bx.new w1 51 [.slice none 0 0, .int .i64 0, .int .i64 0, .int .i64 (p0 : Int), .int .i64 (e0 : Int)]).below hb2 (Bx.new w1 51 _).lt
    have c0 := (hB2.cell 0).trans rfl
    have c1 := (hB2.cell 1).trans rfl
    have c2 := (hB2.cell 2).trans rfl
    have c3 := (hB2.cell 3).trans rfl
    have c4 := (hB2.cell 4).trans rfl
    have f0 := hB2.frozen 0
    have f1 := hB2.frozen 1
    have f2 := hB2.frozen 2
    have f3 := hB2.frozen 3
    have f4 := hB2.frozen 4
    obtain ⟨W9, hW9⟩ : ∃ W9, ((((w2.setCell ⟨w1.heap.size, 0, none⟩ (.slice A n c)).setCell ⟨w1.heap.size, 1, none⟩ (.int .i64 r)).setCell ⟨w1.heap.size, 2, none⟩ (.int .i64 m)).setCell ⟨w1.heap.size, 3, none⟩ (.int .i64 p)).setCell ⟨w1.heap.size, 4, none⟩ (.int .i64 er) = W9 := ⟨_, rfl⟩
    have hE := set5F hB2 (.slice A n c) (.int .i64 r) (.int .i64 m) (.int .i64 p) (.int .i64 er)
    have hbE : Below w.heap.size w W9 := by
      rw [← hW9]
      exact (((((bt HB.out hb2).setCell (p := ⟨w1.heap.size, 0, none⟩) hlt _).setCell (p := ⟨w1.heap.size, 1, none⟩) hlt _).setCell (p := ⟨w1.heap.size, 2, none⟩) hlt _).setCell (p := ⟨w1.heap.size, 3, none⟩) hlt _).setCell (p := ⟨w1.heap.size, 4, none⟩) hlt _
    rw [hW9] at hE
    have z2 := (hE.cell 2).trans rfl
    have z4 := (hE.cell 4).trans rfl
    have HE := Lib.hid hbE
    clear hE hbE hB2 hb2 HB HD1 hlt
    cases b with
    | good nd nest =>
      obtain ⟨rfl, rfl, rfl, rfl, rfl, _⟩ := hA
      clear hb
      go_wp2
      go_ret
      exact ⟨rfl, HE.out⟩
    | bad p1 e1 =>
      have h1 := hb p1 e1 rfl
      have d1 : (((e1 : Int)) != 0) = true := by rw [bne_iff_ne]; omega
      obtain ⟨rfl, rfl, rfl, rfl, rfl, rfl, rfl⟩ := hA
      clear hb h1
      go_wp2
      go_ret
      exact ⟨rfl, HE.out⟩
end Go.Proofs.YtdoeinjplgeadaaGreatDoor
