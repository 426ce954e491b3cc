/- PROVED here: parts Wa of the claim. No condition but those in each theorem's own head. -/
import Derived.Test.YtignojhijmamhaaK43
import Derived.Test.YtignojhijmamhaaK44
import Derived.Deep.DeepCutAuto
import Derived.Deep.LoopGhost
import Derived.Deep.RegionHeld3
namespace Go.Proofs.Ytignojhijmamhaa
open Go Go.RowKit Go.Sort
open Va (ap hpu h_one Bx heap1 bt VP VI str_eq str_ne below2 Hp C46 bcell3 realloc own_below)
open Ty (TT tpT lkT chkT typA vrT dnA ndA decB optZ eff TW)
open Ty.Tr (Nd Ints rgB)
def flN : List NV → List Value
  | [] => []
  | x :: r => .string x.tx :: .int .i64 x.k :: .int .i64 x.n :: flN r
theorem flN_app : ∀ a b : List NV, flN (a ++ b) = flN a ++ flN b
  | [], _ => rfl
  | x :: r, b => by simp only [flN, List.cons_append, flN_app r b]
theorem flN_get : ∀ (ns : List NV) (j : Nat) (hj : j < ns.length), (flN ns)[j * 3]? = some (.string ns[j].tx) ∧ (flN ns)[j * 3 + 1]? = some (.int .i64 ns[j].k) ∧ (flN ns)[j * 3 + 2]? = some (.int .i64 ns[j].n)
  | x :: r, 0, _ => ⟨rfl, rfl, rfl⟩
  | x :: r, j + 1, hj => by
    have h := flN_get r j (by simpa using hj)
    have e0 : (j + 1) * 3 = j * 3 + 1 + 1 + 1 := by omega
    have e1 : (j + 1) * 3 + 1 = j * 3 + 1 + 1 + 1 + 1 := by omega
    have e2 : (j + 1) * 3 + 2 = j * 3 + 2 + 1 + 1 + 1 := by omega
    rw [e1, e2, e0]
    simp only [flN, List.getElem?_cons_succ, List.getElem_cons_succ]
    exact h
theorem nms_own {w : World} {base : Nat} {v : Value} {ns : List NV} (h : w.ownsRow base 71 3 v ns.length (flN ns)) : ∃ A c, v = .slice A ns.length c ∧ Nms w A ns := by
  rcases h.2 with ⟨e1, e2⟩ | ⟨g, c, cur, e, hb, hg, _, _, hs, ht⟩
  · exact ⟨none, 0, by rw [e1, e2], fun h0 => by omega⟩
  · refine ⟨some ⟨g, 0, none⟩, c, e, fun _ => ⟨g, 0, rfl, (Array.getElem?_eq_some_iff.1 hg).1, fun j hj => ?_⟩⟩
    have HB : Bx w g 71 cur.toList := by unfold Bx; rw [Array.toArray_toList]; exact hg
    have hh := flN_get ns j hj
    have at_ : ∀ q, q < ns.length * 3 → w.cell? ⟨g, q, none⟩ = (flN ns)[q]? := fun q hq => by
      rw [HB.cell q, ← ht, List.getElem?_take, if_pos hq]
    refine ⟨?_, ?_, ?_⟩
    · rw [Nat.zero_add, at_ _ (by omega)]; exact hh.1
    · rw [Nat.zero_add, at_ _ (by omega)]; exact hh.2.1
    · rw [Nat.zero_add, at_ _ (by omega)]; exact hh.2.2
theorem own_slice3 {w : World} {base n : Nat} {v : Value} {xs : List Value} (h : w.ownsRow base 71 3 v n xs) : ∃ A c, v = .slice A n c := by
  rcases h.2 with ⟨e1, e2⟩ | ⟨g, cap, cur, e1, _⟩
  · exact ⟨none, 0, by rw [e1, e2]⟩
  · exact ⟨_, _, e1⟩
theorem info71 : (Try.prog.info? 71).map (fun i => (i.zero, i.size, i.bytes)) = some (some (.agg #[.string ⟨#[]⟩, .int .i64 0, .int .i64 0]), 3, 32) := by kernel_rfl
theorem three_one (s : ByteArray) (a b : Int) : ∀ u ∈ [Value.string s, .int .i64 a, .int .i64 b], u.oneCell' = true := by intro u hu; simp at hu; rcases hu with rfl | rfl | rfl <;> rfl
theorem three_cells (w : World) (s : ByteArray) (a b : Int) (t : TypeId) : ∀ j u, [Value.string s, .int .i64 a, .int .i64 b][j]? = some u → (w.alloc (.cells #[.string s, .int .i64 a, .int .i64 b] t)).cell? ((⟨w.heap.size, 0, none⟩ : Addr).add j) = some u := Va.blk_cells w [.string s, .int .i64 a, .int .i64 b] t
def WoP (l : List Nd) (p : Nat) (sd : List Int) (w : World) (e : Ending) (w' : World) : Prop := ∃ A c, e = .returned (.slice A (wL l p sd l.length).length c) ∧ Nms w' A (wL l p sd l.length) ∧ Below w.heap.size w w'
theorem modCast (k m : Nat) : (k : Int).tmod (m : Int) = ((k % m : Nat) : Int) := by rw [Int.tmod_eq_emod_of_nonneg (by omega)]; rfl
section
variable {w : World} {A : Option Addr} {n : Nat} {l : List Nd}
set_option maxRecDepth 100000 in
set_option maxHeartbeats 8000000 in
theorem worth_any (h : TT w A n l) (c : Nat) (r : Int) (hr : rgB l r = true) (p : Nat) (hp : p < l.length) (SA : Option Addr) (sc : Nat) (sd : List Int) (hS : Ints w SA sd) (hsl : sd.length ≤ 60) :
    Calls Try.prog 10 #[.agg #[.slice A n c, .int .i64 r], .int .i64 (p : Int), .slice SA sd.length sc, .agg #[.int .i64 3, .int .i64 1]] w (WoP l p sd w) := by
  have HTT := Lib.hid h
  have HS := Lib.hid hS
  have h4 : l.length ≤ 4000 := (Ty.rtn_of hr).2.1
  have HLK := Lib.hid (fun (W : World) (b : Below w.heap.size w W) (nm : ByteArray) (hn : nm.size ≤ 9223372036854775807) => Ty.lookup_any (h.below b) c r (p : Int) nm hn)
  have hlk : ∀ nm, lkT l r (p : Int) nm = optZ (dnA l p nm) := fun nm => by unfold lkT; rw [Ty.eff_yes hr, if_pos ⟨by omega, by omega⟩, Int.toNat_natCast]
  have HLT := Lib.hid hlk
  have HTX := Lib.hid h.text
  obtain ⟨m, hm⟩ : ∃ m, sd.length = m := ⟨_, rfl⟩
  rw [hm] at hsl ⊢
  have HM := Lib.hid hm
  have hl := h.len
  have HL := Lib.hid hl
  have hX0 := (Bx.new w 24 [.slice A n c, .int .i64 r]).alloc (.cells #[.int .i64 3, .int .i64 1] 41)
  have hX1 := Bx.new (w.alloc (.cells #[.slice A n c, .int .i64 r] 24)) 41 [.int .i64 3, .int .i64 1]
  simp only [World.size_alloc] at hX1
  have hb0 : Below w.heap.size w ((w.alloc (.cells #[.slice A n c, .int .i64 r] 24)).alloc (.cells #[.int .i64 3, .int .i64 1] 41)) := (heap1 _ _).alloc (by simp only [World.size_alloc]; omega) _
  obtain ⟨W0, hW0⟩ : ∃ W0, ((w.alloc (.cells #[.slice A n c, .int .i64 r] 24)).alloc (.cells #[.int .i64 3, .int .i64 1] 41)) = W0 := ⟨_, rfl⟩
  have HX0 := Lib.hid (show Bx W0 w.heap.size 24 [.slice A n c, .int .i64 r] by rw [← hW0]; exact hX0)
  have HX1 := Lib.hid (show Bx W0 (w.heap.size + 1) 41 [.int .i64 3, .int .i64 1] by rw [← hW0]; exact hX1)
  rw [hW0] at hb0
  have HB0 := Lib.hid hb0
  have hn4 : n ≤ 4000 := by omega
  clear hX0 hX1 hb0 hm h hS hlk hl h4
  go_enter Try.func10, Try.ntmps10
  go_wp2
  clear hW0
  go_loopg [9, 10] n (fun k v9 v10 wr => ∃ (u : Value) (i : Nat), v9 = u ∧ i + k = n ∧ v10 = .int .i64 (i : Int) ∧ Below W0.heap.size W0 wr ∧ wr.ownsRow W0.heap.size 71 3 u (wL l p sd i).length (flN (wL l p sd i)))
  case atStart => exact ⟨_, 0, rfl, Nat.zero_add _, rfl, Below.refl _ _, World.ownsRow_nil _ _ _ _⟩
  case round =>
    obtain ⟨u9, i, rfl, hi, rfl, hb, hown⟩ := hrel
    obtain ⟨W1, rfl⟩ : ∃ W1, W1 = wr := ⟨_, rfl⟩
    have HGK := Lib.hid hi
    have HBW := Lib.hid (bt HB0.out hb)
    have HX0a := Lib.hid (HX0.out.below hb HX0.out.lt)
    have HX1a := Lib.hid (HX1.out.below hb HX1.out.lt)
    have a0 := (HX0a.out.cell 0).trans rfl
    obtain ⟨A9, c9, e9⟩ := own_slice3 hown
    subst e9
    have HOW := Lib.hid hown
    have HBB := Lib.hid hb
    by_cases hlt : i < n
    · have hiz : (i : Int) < (n : Int) := by omega
      have hil : i < l.length := by rw [← HL.out]; exact hlt
      obtain ⟨bA, off, K, cK, rfl, xt, x0, x1, x2, x3, x4, _⟩ := Ty.node_at (HTT.out.below HBW.out).nds (Below.refl _ W1) i hil
      have hnd : ndA l (i : Int) = l[i] := Ty.ndA_eq hil
      have htxs := HTX.out l[i] (List.getElem_mem hil)
      obtain ⟨q, hq⟩ : ∃ q, l[i]'hil = q := ⟨_, rfl⟩
      rw [hq] at x0 x1 x2 x3 x4 hnd htxs
      obtain ⟨kd, nn, pl, tx, ks⟩ := q
      dsimp only at x0 x1 x2 x3 x4 htxs
      obtain ⟨mk, hmk⟩ : ∃ mk, ks.length = mk := ⟨_, rfl⟩
      rw [hmk] at x4
      have HND := Lib.hid hnd
      have HTS := Lib.hid htxs
      have HLT2 := Lib.hid hlt
      have hbx := heap1 W1 (.cells #[.int .i64 kd, .int .i64 nn, .int .i64 pl, .string tx, .slice K mk cK] 55)
      have hX := Bx.new W1 55 [.int .i64 kd, .int .i64 nn, .int .i64 pl, .string tx, .slice K mk cK]
      clear hq hmk hb hown hnd htxs hi hlt
      go_upto_region 6 with (fail)
      obtain ⟨W2, hW2⟩ : ∃ W2, W1.alloc (.cells #[.int .i64 kd, .int .i64 nn, .int .i64 pl, .string tx, .slice K mk cK] 55) = W2 := ⟨_, rfl⟩
      rw [hW2] at hbx ⊢
      have HX := Lib.hid (show Bx W2 W1.heap.size 55 [.int .i64 kd, .int .i64 nn, .int .i64 pl, .string tx, .slice K mk cK] by rw [← hW2]; exact hX)
      have HB2 := Lib.hid hbx
      clear hX hbx hW2 x0 x1 x2 x3 x4 a0
      have HDN := Lib.hid (show dnB l p i = (decB kd && decide (optZ (dnA l p tx) = (i : Int))) by unfold dnB; rw [HND.out])
      go_cut [46] from 13 to 76 (fun x wx => x = .bool (!(dnB l p i)) ∧ Below W2.heap.size W2 wx)
      case first =>
        have y0 := (HX.out.cell 0).trans rfl
        have y3 := (HX.out.cell 3).trans rfl
        have a0 := ((HX0a.out.below HB2.out (by have := HX0a.out.lt; omega)).cell 0).trans rfl
        have a1 := ((HX0a.out.below HB2.out (by have := HX0a.out.lt; omega)).cell 1).trans rfl
        have HC := Lib.hid (HLK.out W2 (bt HBW.out HB2.out) tx HTS.out)
        obtain ⟨z, hz⟩ : ∃ z, optZ (dnA l p tx) = z := ⟨_, rfl⟩
        rw [HLT.out, hz] at HC
        rw [hz] at HDN
        clear hz
        by_cases h2 : kd = 2 ∨ kd = 4 ∨ kd = 5
        · have HDD := Lib.hid (show dnB l p i = decide (z = (i : Int)) by rw [HDN.out, show decB kd = true by unfold decB; rcases h2 with rfl | rfl | rfl <;> rfl, Bool.true_and])
          cases hzi : decide (z = (i : Int)) with
          | true =>
            have hzz : (z != (i : Int)) = false := by have := of_decide_eq_true hzi; simp [this]
            rw [hzi] at HDD
            clear hzi
            rcases h2 with rfl | rfl | rfl
            all_goals (
              go_wp2_with (first | (go_at_call 26; refine HC.out.mono ?_; rintro e w3 ⟨rfl, hb3⟩) | fail)
              go_meet
              exact ⟨by rw [HDD.out]; rfl, hb3⟩)
          | false =>
            have hzz : (z != (i : Int)) = true := by have := of_decide_eq_false hzi; simp [this]
            rw [hzi] at HDD
            clear hzi
            rcases h2 with rfl | rfl | rfl
            all_goals (
              go_wp2_with (first | (go_at_call 26; refine HC.out.mono ?_; rintro e w3 ⟨rfl, hb3⟩) | fail)
              go_meet
              exact ⟨by rw [HDD.out]; rfl, hb3⟩)
        · have q2 : (kd != 2) = true := by simp; omega
          have q4 : (kd != 4) = true := by simp; omega
          have q5 : (kd != 5) = true := by simp; omega
          have HDD := Lib.hid (show dnB l p i = false by rw [HDN.out, show decB kd = false by unfold decB; simp; omega, Bool.false_and])
          clear h2
          go_wp2_with fail
          go_meet
          exact ⟨by rw [HDD.out]; rfl, Below.refl _ _⟩
      case rest =>
        obtain ⟨rfl, hbc⟩ := hcut
        obtain ⟨W3, rfl⟩ : ∃ W3, W3 = wc := ⟨_, rfl⟩
        have HB3 := Lib.hid (show Below W1.heap.size W2 W3 from hbc.mono (Nat.le_of_lt HX.out.lt))
        have HB13 := Lib.hid (bt HB2.out hbc)
        have hown3 := own_below HOW.out (bt HB2.out hbc)
        have HOW3 := Lib.hid hown3
        have HX3 := Lib.hid (HX.out.below hbc HX.out.lt)
        clear hbc hown3
        cases hd : dnB l p i with
        | false =>
          have HWL := Lib.hid (show wL l p sd (i + 1) = wL l p sd i by show (if dnB l p i = true then _ else _) = _; rw [hd]; rfl)
          have HE := Lib.hid (bt HBB.out HB13.out)
          clear hd
          go_wp2
          go_roundg (n - (i + 1))
          case measure => have := HLT2.out; have := HGK.out; omega
          case rel => exact ⟨_, i + 1, rfl, by have := HLT2.out; omega, by go_num, HE.out, by rw [HWL.out]; exact HOW3.out⟩
        | true =>
          have HWL := Lib.hid (show wL l p sd (i + 1) = wL l p sd i ++ [⟨tx, (wV l sd i).1, (wV l sd i).2⟩] by show (if dnB l p i = true then _ else _) = _; rw [hd, if_pos rfl, HND.out])
          have HWV := Lib.hid (show wV l sd i = if nn = 3 then (3, 1) else if nn = 1 ∧ 0 < m then (1, sd.getD (i % m) 0) else (nn, 0) by unfold wV; rw [HND.out, HM.out])
          obtain ⟨⟨v1, v2⟩, hv⟩ : ∃ R, wV l sd i = R := ⟨_, rfl⟩
          rw [hv] at HWL HWV
          dsimp only at HWL
          have y1 := (HX3.out.cell 1).trans rfl
          have y3 := (HX3.out.cell 3).trans rfl
          have HZE := Lib.hid (Va.zero_any nn W3)
          obtain ⟨i0, hi0⟩ : ∃ i0, Try.prog.info? 71 = some i0 := by
            have h := info71
            cases hq : Try.prog.info? 71 with
            | none => rw [hq] at h; cases h
            | some i0 => exact ⟨i0, rfl⟩
          have hz := info71
          rw [hi0] at hz
          simp only [Option.map_some, Option.some.injEq, Prod.mk.injEq] at hz
          have HI := Lib.hid (And.intro hi0 hz)
          have hwl := wL_len (l := l) p sd i
          have HWN := Lib.hid (show (wL l p sd i).length ≤ 4000 by have := HLT2.out; omega)
          clear hd hv hi0 hz hwl
          go_wp2_with (go_at_call 15; refine HZE.out.mono ?_)
          rintro e w4 ⟨rfl, rfl⟩
          have hb5 : Below W3.heap.size W3 ((W3.alloc (.cells #[.int .i64 nn, .int .i64 0] 41)).alloc (.cells #[.int .i64 nn, .int .i64 0] 41)) := (heap1 _ _).alloc (by simp) _
          have hXV := Bx.new (W3.alloc (.cells #[.int .i64 nn, .int .i64 0] 41)) 41 [.int .i64 nn, .int .i64 0]
          go_upto_region 8 with (fail)
          obtain ⟨W5, hW5⟩ : ∃ W5, ((W3.alloc (.cells #[.int .i64 nn, .int .i64 0] 41)).alloc (.cells #[.int .i64 nn, .int .i64 0] 41)) = W5 := ⟨_, rfl⟩
          rw [hW5] at hb5 ⊢
          have HXV := Lib.hid (show Bx W5 (W3.heap.size + 1) 41 [.int .i64 nn, .int .i64 0] by rw [← hW5]; simpa using hXV)
          have HB5 := Lib.hid hb5
          have HX5 := Lib.hid (HX3.out.below hb5 HX3.out.lt)
          have HX1b := Lib.hid (HX1a.out.below (bt HB13.out hb5) HX1a.out.lt)
          have HOW5 := Lib.hid (own_below HOW3.out hb5)
          have HBE := Lib.hid (bt HBB.out (bt HB13.out hb5))
          have HS5 := Lib.hid (HS.out.below (bt HBW.out (bt HB13.out hb5)))
          have HLE := Lib.hid (show W0.heap.size ≤ W3.heap.size from (bt HBB.out HB13.out).size)
          simp only [World.size_alloc] at *
          generalize W3.heap.size = z3 at *
          clear hb5 hXV hW5 y1 y3
          have y1 := (HX5.out.cell 1).trans rfl
          have y3 := (HX5.out.cell 3).trans rfl
          have t0 := (HXV.out.cell 0).trans rfl
          have t1 := (HXV.out.cell 1).trans rfl
          have f0 := HXV.out.frozen 0
          have f1 := HXV.out.frozen 1
          have s0 := (HX1b.out.cell 0).trans rfl
          have s1 := (HX1b.out.cell 1).trans rfl
          by_cases h1 : nn = 1
          · subst h1
            by_cases hm0 : 0 < m
            · have hv := HWV.out
              rw [if_neg (by decide), if_pos ⟨rfl, hm0⟩] at hv
              injection hv with hv1 hv2
              have hmz : (0 : Int) < (m : Int) := by omega
              have hd : decide ((0 : Int) < (m : Int)) = true := decide_eq_true hmz
              have hmod := modCast i m
              have hml : i % m < m := Nat.mod_lt _ hm0
              have hmzz : ((i % m : Nat) : Int) < (m : Int) := by omega
              have hne : ((m : Int) == 0) = false := by simp; omega
              have hsl2 : i % m < sd.length := by rw [HM.out]; exact hml
              obtain ⟨bS, oS, rfl, hbS, hcS⟩ := HS5.out (by omega)
              have xs := hcS (i % m) hsl2
              have hgd : sd.getD (i % m) 0 = sd[i % m]'hsl2 := by rw [List.getD_eq_getElem?_getD, List.getElem?_eq_getElem hsl2]; rfl
              rw [← hgd, ← hv2] at xs
              obtain ⟨jm, hjm⟩ : ∃ jm, i % m = jm := ⟨_, rfl⟩
              rw [hjm] at hmod hml hmzz xs
              have hXW := HXV.out.set_ 1 (.int .i64 v2)
              have HBX0 := Lib.hid (HBE.out.setCell (p := ⟨z3 + 1, 1, none⟩) (by have := HLE.out; show W0.heap.size ≤ z3 + 1; omega) (.int .i64 v2))
              have HOX0 := Lib.hid (show (W5.setCell ⟨z3 + 1, 1, none⟩ (.int .i64 v2)).ownsRow W0.heap.size 71 3 _ _ _ from Va.own_fr HOW5.out (Va.fr_set (fun b => b = z3 + 1) W5 (p := ⟨z3 + 1, 1, none⟩) rfl (.int .i64 v2)) (fun b hb e => Va.own_bx_ne HOW5.out HXV.out (by decide) (by rw [hb, e])))
              have hX7 := HX5.out.far (p := ⟨z3 + 1, 1, none⟩) (fun e => absurd (Va.Bx.ne_ HX5.out HXV.out (by decide)) (fun q => q e)) (.int .i64 v2)
              clear hv2 hcS hgd hsl2 hjm hml
              subst hv1
              go_upto_region 10 with (fail)
              obtain ⟨WX, hWX⟩ : ∃ WX, W5.setCell ⟨z3 + 1, 1, none⟩ (.int .i64 v2) = WX := ⟨_, rfl⟩
              rw [hWX] at HBX0 HOX0 hXW hX7 ⊢
              have HBX := Lib.hid HBX0.out
              have HOWX := Lib.hid HOX0.out
              clear y1 y3 t0 t1 hWX xs
              have y1 := (hX7.cell 1).trans rfl
              have y3 := (hX7.cell 3).trans rfl
              have t0 := (hXW.cell 0).trans rfl
              have t1 := (hXW.cell 1).trans rfl
              clear hX7 hXW
              go_wp2_with (at_builtin; refine wpList_append_own _ rfl _ _ 47 rfl W0.heap.size 71 i0 (.agg #[.string ⟨#[]⟩, .int .i64 0, .int .i64 0]) 3 32 Try.underlying47 HI.out.1 HI.out.2.1 HI.out.2.2.1 HI.out.2.2.2 rfl (by decide) _ _ _ rfl (HOWX.out.alloc _) ⟨WX.heap.size, 0, none⟩ 1 1 [.string tx, .int .i64 1, .int .i64 v2] rfl rfl (three_cells WX tx 1 v2 71) (three_one tx 1 v2) (by have := HWN.out; unfold maxLen; omega) (by have := HWN.out; omega) (by have := HBX.out.size; simp only [World.size_alloc]; omega) ?_)
              intro v' w7 hown7 hgrow7 _
              have hb7 : Below W0.heap.size W0 w7 := (HBX.out.alloc HBX.out.size _).grown hgrow7 (by have := HBX.out.size; simp only [World.size_alloc]; omega) (fun q hq => (HOWX.out.lt q hq).1)
              have hown8 : w7.ownsRow W0.heap.size 71 3 v' (wL l p sd (i + 1)).length (flN (wL l p sd (i + 1))) := by
                rw [HWL.out, flN_app, List.length_append]; exact hown7
              have HE := Lib.hid (And.intro hb7 hown8)
              clear hown7 hgrow7 hb7 hown8
              go_wp2
              go_roundg (n - (i + 1))
              case measure => have := HLT2.out; have := HGK.out; omega
              case rel => exact ⟨_, i + 1, rfl, by have := HLT2.out; omega, by go_num, HE.out.1, HE.out.2⟩
            · have hm1 : m = 0 := by omega
              subst hm1
              have hv := HWV.out
              rw [if_neg (by decide), if_neg (by omega)] at hv
              injection hv with hv1 hv2
              subst hv1 hv2
              have HBX := Lib.hid HBE.out
              have HOWX := Lib.hid HOW5.out
              go_wp2_with (at_builtin; refine wpList_append_own _ rfl _ _ 47 rfl W0.heap.size 71 i0 (.agg #[.string ⟨#[]⟩, .int .i64 0, .int .i64 0]) 3 32 Try.underlying47 HI.out.1 HI.out.2.1 HI.out.2.2.1 HI.out.2.2.2 rfl (by decide) _ _ _ rfl (HOWX.out.alloc _) ⟨W5.heap.size, 0, none⟩ 1 1 [.string tx, .int .i64 1, .int .i64 0] rfl rfl (three_cells W5 tx 1 0 71) (three_one tx 1 0) (by have := HWN.out; unfold maxLen; omega) (by have := HWN.out; omega) (by have := HBX.out.size; simp only [World.size_alloc]; omega) ?_)
              intro v' w7 hown7 hgrow7 _
              have hb7 : Below W0.heap.size W0 w7 := (HBX.out.alloc HBX.out.size _).grown hgrow7 (by have := HBX.out.size; simp only [World.size_alloc]; omega) (fun q hq => (HOWX.out.lt q hq).1)
              have hown8 : w7.ownsRow W0.heap.size 71 3 v' (wL l p sd (i + 1)).length (flN (wL l p sd (i + 1))) := by
                rw [HWL.out, flN_app, List.length_append]; exact hown7
              have HE := Lib.hid (And.intro hb7 hown8)
              clear hown7 hgrow7 hb7 hown8
              go_wp2
              go_roundg (n - (i + 1))
              case measure => have := HLT2.out; have := HGK.out; omega
              case rel => exact ⟨_, i + 1, rfl, by have := HLT2.out; omega, by go_num, HE.out.1, HE.out.2⟩
          · have hn1 : (nn == 1) = false := beq_eq_false_iff_ne.2 h1
            by_cases h3 : nn = 3
            · subst h3
              have hv := HWV.out
              rw [if_pos rfl] at hv
              injection hv with hv1 hv2
              subst hv1 hv2
              have hXW := (HXV.out.set_ 0 (.int .i64 3)).set_ 1 (.int .i64 1)
              have HBX0 := Lib.hid ((HBE.out.setCell (p := ⟨z3 + 1, 0, none⟩) (by have := HLE.out; show W0.heap.size ≤ z3 + 1; omega) (.int .i64 3)).setCell (p := ⟨z3 + 1, 1, none⟩) (by have := HLE.out; show W0.heap.size ≤ z3 + 1; omega) (.int .i64 1))
              have hO1 : (W5.setCell ⟨z3 + 1, 0, none⟩ (.int .i64 3)).ownsRow W0.heap.size 71 3 _ _ _ := Va.own_fr HOW5.out (Va.fr_set (fun b => b = z3 + 1) W5 (p := ⟨z3 + 1, 0, none⟩) rfl (.int .i64 3)) (fun b hb e => Va.own_bx_ne HOW5.out HXV.out (by decide) (by rw [hb, e]))
              have HOX0 := Lib.hid (show ((W5.setCell ⟨z3 + 1, 0, none⟩ (.int .i64 3)).setCell ⟨z3 + 1, 1, none⟩ (.int .i64 1)).ownsRow W0.heap.size 71 3 _ _ _ from Va.own_fr hO1 (Va.fr_set (fun b => b = z3 + 1) _ (p := ⟨z3 + 1, 1, none⟩) rfl (.int .i64 1)) (fun b hb e => Va.own_bx_ne HOW5.out HXV.out (by decide) (by rw [hb, e])))
              have hne := Va.Bx.ne_ HX5.out HXV.out (by decide)
              have hX7 := (HX5.out.far (p := ⟨z3 + 1, 0, none⟩) hne (.int .i64 3)).far (p := ⟨z3 + 1, 1, none⟩) hne (.int .i64 1)
              clear hO1 hne
              go_upto_region 12 with (fail)
              obtain ⟨WX, hWX⟩ : ∃ WX, (W5.setCell ⟨z3 + 1, 0, none⟩ (.int .i64 3)).setCell ⟨z3 + 1, 1, none⟩ (.int .i64 1) = WX := ⟨_, rfl⟩
              rw [hWX] at HBX0 HOX0 hXW hX7 ⊢
              have HBX := Lib.hid HBX0.out
              have HOWX := Lib.hid HOX0.out
              clear y1 y3 t0 t1 hWX
              have y3 := (hX7.cell 3).trans rfl
              have t0 := (hXW.cell 0).trans rfl
              have t1 := (hXW.cell 1).trans rfl
              clear hX7 hXW
              go_wp2_with (at_builtin; refine wpList_append_own _ rfl _ _ 47 rfl W0.heap.size 71 i0 (.agg #[.string ⟨#[]⟩, .int .i64 0, .int .i64 0]) 3 32 Try.underlying47 HI.out.1 HI.out.2.1 HI.out.2.2.1 HI.out.2.2.2 rfl (by decide) _ _ _ rfl (HOWX.out.alloc _) ⟨WX.heap.size, 0, none⟩ 1 1 [.string tx, .int .i64 3, .int .i64 1] rfl rfl (three_cells WX tx 3 1 71) (three_one tx 3 1) (by have := HWN.out; unfold maxLen; omega) (by have := HWN.out; omega) (by have := HBX.out.size; simp only [World.size_alloc]; omega) ?_)
              intro v' w7 hown7 hgrow7 _
              have hb7 : Below W0.heap.size W0 w7 := (HBX.out.alloc HBX.out.size _).grown hgrow7 (by have := HBX.out.size; simp only [World.size_alloc]; omega) (fun q hq => (HOWX.out.lt q hq).1)
              have hown8 : w7.ownsRow W0.heap.size 71 3 v' (wL l p sd (i + 1)).length (flN (wL l p sd (i + 1))) := by
                rw [HWL.out, flN_app, List.length_append]; exact hown7
              have HE := Lib.hid (And.intro hb7 hown8)
              clear hown7 hgrow7 hb7 hown8
              go_wp2
              go_roundg (n - (i + 1))
              case measure => have := HLT2.out; have := HGK.out; omega
              case rel => exact ⟨_, i + 1, rfl, by have := HLT2.out; omega, by go_num, HE.out.1, HE.out.2⟩
            · have hn3 : (nn == 3) = false := beq_eq_false_iff_ne.2 h3
              have hv := HWV.out
              rw [if_neg h3, if_neg (fun q => h1 q.1)] at hv
              injection hv with hv1 hv2
              subst hv1 hv2
              have HBX := Lib.hid HBE.out
              have HOWX := Lib.hid HOW5.out
              go_wp2_with (at_builtin; refine wpList_append_own _ rfl _ _ 47 rfl W0.heap.size 71 i0 (.agg #[.string ⟨#[]⟩, .int .i64 0, .int .i64 0]) 3 32 Try.underlying47 HI.out.1 HI.out.2.1 HI.out.2.2.1 HI.out.2.2.2 rfl (by decide) _ _ _ rfl (HOWX.out.alloc _) ⟨W5.heap.size, 0, none⟩ 1 1 [.string tx, .int .i64 v1, .int .i64 0] rfl rfl (three_cells W5 tx v1 0 71) (three_one tx v1 0) (by have := HWN.out; unfold maxLen; omega) (by have := HWN.out; omega) (by have := HBX.out.size; simp only [World.size_alloc]; omega) ?_)
              intro v' w7 hown7 hgrow7 _
              have hb7 : Below W0.heap.size W0 w7 := (HBX.out.alloc HBX.out.size _).grown hgrow7 (by have := HBX.out.size; simp only [World.size_alloc]; omega) (fun q hq => (HOWX.out.lt q hq).1)
              have hown8 : w7.ownsRow W0.heap.size 71 3 v' (wL l p sd (i + 1)).length (flN (wL l p sd (i + 1))) := by
                rw [HWL.out, flN_app, List.length_append]; exact hown7
              have HE := Lib.hid (And.intro hb7 hown8)
              clear hown7 hgrow7 hb7 hown8
              go_wp2
              go_roundg (n - (i + 1))
              case measure => have := HLT2.out; have := HGK.out; omega
              case rel => exact ⟨_, i + 1, rfl, by have := HLT2.out; omega, by go_num, HE.out.1, HE.out.2⟩
    · obtain rfl : i = n := by omega
      have hiz : ¬ (i : Int) < (i : Int) := by omega
      have hown' := HOW.out
      rw [HL.out] at hown'
      obtain ⟨A8, c8, e8, hN8⟩ := nms_own hown'
      injection e8 with e8a e8b e8c
      subst e8a e8c
      clear hb hown hlt hi hown'
      go_wp2
      go_ret
      exact ⟨A9, c9, (show Ending.returned (.slice A9 (wL l p sd i).length c9) = Ending.returned (.slice A9 (wL l p sd l.length).length c9) from by rw [← HL.out]), hN8, HBW.out⟩
end
end Go.Proofs.Ytignojhijmamhaa
