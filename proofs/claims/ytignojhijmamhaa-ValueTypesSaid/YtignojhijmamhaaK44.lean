/- PROVED here: parts TyLk TyWd of the claim. No condition but those in each theorem's own head. -/
import Derived.Test.YtignojhijmamhaaK27
namespace Go.Proofs.Ytignojhijmamhaa.Ty
open Go Go.RowKit
open Tr (Bx heap1 bt Nds Ints VPost BPost rgB)
section
variable (l : List Tr.Nd) (r z : Int) (nm : ByteArray)
noncomputable def lkT : Int := if 0 ≤ z ∧ z < ((eff l r).length : Int) then optZ (dnA (eff l r) z.toNat nm) else -1
end
section
variable {w : World} {l : List Tr.Nd} {A : Option Addr} {n : Nat}
set_option maxRecDepth 100000 in
set_option maxHeartbeats 1500000 in
theorem lookup_any (h : TT w A n l) (c : Nat) (r z : Int) (nm : ByteArray) (hn : nm.size ≤ 9223372036854775807) : Calls Try.prog 26 #[.agg #[.slice A n c, .int .i64 r], .int .i64 z, .string nm] w (Tr.IPost (lkT l r z nm) w) := by
  have hb0 := heap1 w (.cells #[.slice A n c, .int .i64 r] 24)
  have HB0 := Lib.hid hb0
  have HR := Lib.hid (read_any (h.below hb0) c r)
  obtain ⟨ov, hov⟩ : ∃ ov, lkT l r z nm = ov := ⟨_, rfl⟩
  rw [hov]
  unfold lkT at hov
  have HOV := Lib.hid hov
  clear h hb0 hov
  generalize eff l r = L at *
  go_enter Try.func26, Try.ntmps26
  go_wp2_with (go_at_call 16; refine HR.out.mono ?_)
  rintro e w1 ⟨A1, n1, c1, O, co, bd, bp, rfl, hP, hC, hb1⟩
  unfold PrV
  have hbx := heap1 w1 (.cells #[.slice A1 n1 c1, .slice O n1 co, .map (some bd), .map (some bp)] 59)
  have hh := has_any (w1.alloc (.cells #[.slice A1 n1 c1, .slice O n1 co, .map (some bd), .map (some bp)] 59)) A1 O n1 bd bp c1 co z
  unfold PrV at hh
  have HX := Lib.hid (Bx.new w1 59 [.slice A1 n1 c1, .slice O n1 co, .map (some bd), .map (some bp)])
  have HP := Lib.hid (hP.below hbx)
  have HB1 := Lib.hid (bt (bt HB0.out hb1) hbx)
  have HL := Lib.hid hP.len
  clear HR hP hC hb1 hbx
  by_cases hz : 0 ≤ z ∧ z < (L.length : Int)
  · have hv := HOV.out
    rw [if_pos hz] at hv
    clear HOV
    obtain ⟨k, rfl⟩ : ∃ k : Nat, z = (k : Int) := ⟨z.toNat, by omega⟩
    replace hv : optZ (dnA L k nm) = ov := hv
    subst hv
    have hk : k < n1 := by have := HL.out; omega
    have hkz : (k : Int) < (n1 : Int) := by omega
    rw [decide_eq_true hz.1, decide_eq_true hkz] at hh
    have HH := Lib.hid (show Calls Try.prog 22 #[.agg #[.slice A1 n1 c1, .slice O n1 co, .map (some bd), .map (some bp)], .int .i64 (k : Int)] (w1.alloc (.cells #[.slice A1 n1 c1, .slice O n1 co, .map (some bd), .map (some bp)] 59)) (BPost true (w1.alloc (.cells #[.slice A1 n1 c1, .slice O n1 co, .map (some bd), .map (some bp)] 59))) from hh)
    clear hh hz
    go_wp2_with (go_at_call 22; refine HH.out.mono ?_)
    rintro e w2 ⟨rfl, hb2⟩
    have hX2 := HX.out.below hb2 HX.out.lt
    have q0 := (hX2.cell 0).trans rfl
    have q1 := (hX2.cell 1).trans rfl
    have q2 := (hX2.cell 2).trans rfl
    have q3 := (hX2.cell 3).trans rfl
    have HP2 := Lib.hid (HP.out.below hb2)
    have HX2 := Lib.hid hX2
    have HB2 := Lib.hid (bt HB1.out hb2)
    have hq := denoted_any HP2.out c1 co k hk nm hn
    unfold PrV at hq
    have HQ := Lib.hid hq
    clear hb2 hX2 hq
    go_wp2_with (go_at_call 46; refine HQ.out.mono ?_)
    rintro e w3 ⟨rfl, hb3⟩
    have HB3 := Lib.hid (bt HB2.out hb3)
    clear hb3
    go_wp2
    go_ret
    exact ⟨rfl, HB3.out⟩
  · have hv := HOV.out
    rw [if_neg hz] at hv
    subst hv
    clear HOV
    have hf : (decide (0 ≤ z) && decide (z < (n1 : Int))) = false := by
      rw [HL.out, Bool.eq_false_iff]
      intro h2
      simp only [Bool.and_eq_true, decide_eq_true_eq] at h2
      exact hz h2
    rw [hf] at hh
    have HH := Lib.hid hh
    clear hh hz hf
    go_wp2_with (go_at_call 22; refine HH.out.mono ?_)
    rintro e w2 ⟨rfl, hb2⟩
    have HB2 := Lib.hid (bt HB1.out hb2)
    clear hb2
    go_wp2
    go_ret
    exact ⟨rfl, HB2.out⟩
end
end Go.Proofs.Ytignojhijmamhaa.Ty
namespace Go.Proofs.Ytignojhijmamhaa.Ty
open Go Go.RowKit
open Tr (Bx heap1 bt Nds Ints VPost BPost rgB)
structure TW (w : World) (A : Option Addr) (n : Nat) (l : List Tr.Nd) : Prop where
  nds : Nds w A l
  len : n = l.length
  big : ∀ x ∈ l, x.n ≤ 9223372036854775807 ∧ x.ks.length ≤ 9223372036854775807 ∧ x.tx.size ≤ 9223372036854775807
  caps : Caps w A l
theorem TW.below {w w' : World} {A : Option Addr} {n : Nat} {l : List Tr.Nd} (h : TW w A n l) (hb : Below w.heap.size w w') : TW w' A n l :=
  ⟨h.nds.below hb, h.len, h.big, h.caps.below h.nds hb⟩
theorem TW.tt {w : World} {A : Option Addr} {n : Nat} {l : List Tr.Nd} (h : TW w A n l) {r : Int} (hr : rgB l r = true) : TT w A n l :=
  ⟨h.nds, h.len, Tr.snd_kids (rg_parts hr).1, fun x hx => (h.big x hx).2.2, fun x hx => (h.big x hx).1, h.caps⟩
theorem TW.right {w : World} {A : Option Addr} {n : Nat} {l : List Tr.Nd} (h : TW w A n l) (c : Nat) (r : Int) : Calls Try.prog 32 #[.agg #[.slice A n c, .int .i64 r]] w (BPost (rgB l r) w) := Tr.right_any A c n l r w h.nds h.len (fun x hx => (h.big x hx).2.1) (fun x hx => (h.big x hx).2.2) (fun x hx => (h.big x hx).1)
section
variable {w : World} {l : List Tr.Nd} {A : Option Addr} {n : Nat}
theorem read_none (h : TW w A n l) (c : Nat) (r : Int) (hr : rgB l r = false) : Calls Try.prog 16 #[.agg #[.slice A n c, .int .i64 r]] w (RPost [] w) := by
  have HR : ∀ w', Below w.heap.size w w' → Calls Try.prog 32 #[.agg #[.slice A n c, .int .i64 r]] w' (BPost false w') := fun w' hb => by rw [← hr]; exact (h.below hb).right c r
  refine callsIn_wide.1 (read_no A c n r w HR _ (Lib.hid ?_))
  rintro e w' ⟨n', c', O, co, bd, bp, rfl, hn, hbw, hO, hd, hp⟩
  exact ⟨none, n', c', O, co, bd, bp, rfl, ⟨fun h0 => absurd h0 (Nat.lt_irrefl 0), hn, by rw [hn]; exact Nat.zero_le _, hO, hd, hp, fun x hx => (by cases hx), fun x hx => (by cases hx), fun p hp => absurd hp (Nat.not_lt_zero _)⟩, fun p bA off K m c hp => absurd hp (Nat.not_lt_zero _), hbw⟩
set_option maxRecDepth 100000 in
set_option maxHeartbeats 8000000 in
theorem check_wide (h : TW w A n l) (c : Nat) (r : Int) : Calls Try.prog 6 #[.agg #[.slice A n c, .int .i64 r]] w (VPost (.tuple #[.int .i64 (chkT l r).1, .int .i64 (chkT l r).2]) w) := by
  cases hr : rgB l r with
  | true => exact check_any (h.tt hr) c r
  | false =>
    have hb0 := heap1 w (.cells #[.slice A n c, .int .i64 r] 24)
    have HB0 := Lib.hid hb0
    have HR := Lib.hid (read_none (h.below hb0) c r hr)
    have HT := Lib.hid (Bx.new w 24 [.slice A n c, .int .i64 r])
    unfold chkT
    rw [hr, if_neg (by decide)]
    clear h hb0 hr
    go_enter Try.func6, Try.ntmps6
    go_wp2_with (go_at_call 16; refine HR.out.mono ?_)
    rintro e w1 ⟨A1, n1, c1, O, co, bd, bp, rfl, hP, _, hb1⟩
    unfold PrV
    obtain rfl : n1 = 0 := hP.len
    have hN := isNothing_any (w1.alloc (.cells #[.slice A1 0 c1, .slice O 0 co, .map (some bd), .map (some bp)] 59)) A1 O 0 bd bp c1 co
    unfold PrV at hN
    have HN := Lib.hid hN
    have HB1 := Lib.hid (bt (bt HB0.out hb1) (heap1 w1 (.cells #[.slice A1 0 c1, .slice O 0 co, .map (some bd), .map (some bp)] 59)))
    clear hP hb1 hN
    go_wp2_with (go_at_call 17; refine HN.out.mono ?_)
    rintro e w2 ⟨rfl, hb2⟩
    have HB2 := Lib.hid (bt HB1.out hb2)
    clear hb2
    go_wp2
    exact bodyPost_ret (v := .tuple #[.int .i64 0, .int .i64 1]) (by simp [results, Try.f6, go_sem]) rfl ⟨rfl, HB2.out⟩
end
end Go.Proofs.Ytignojhijmamhaa.Ty
