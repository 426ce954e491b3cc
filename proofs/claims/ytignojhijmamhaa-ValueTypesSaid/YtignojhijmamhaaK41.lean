/- PROVED here: parts Ef of the claim. No condition but those in each theorem's own head. -/
import Derived.Test.YtignojhijmamhaaK40
namespace Go.Proofs.Ytignojhijmamhaa
open Go Go.RowKit Go.Sort
open Va (Bx heap1 bt VP VI V2 V3 str_eq str_ne below2 Hp C46 unR binR getV lenH tB)
open Ty (TT tpT pcT)
open Ty.Tr (Nd)
def kidV (ev : Nat → (Int × Int) × Int) : List Int → List (Int × Int) ⊕ Int
  | [] => .inl []
  | k :: r => if (ev k.toNat).2 = 0 then (match kidV ev r with | .inl vs => .inl ((ev k.toNat).1 :: vs) | .inr e => .inr e) else .inr (ev k.toNat).2
noncomputable def evV (l : List Nd) (r : Int) (ns : List NV) (L : List (List Int)) : Nat → Nat → (Int × Int) × Int
  | 0, _ => ((0, 0), 0)
  | f + 1, p => match kidV (evV l r ns L f) (Ty.Tr.nth l p).ks with
    | .inl vs => mdV l r ns L p (Ty.Tr.nth l p) (vs.getD 0 (0, 0)).1 (vs.getD 0 (0, 0)).2 (vs.getD 1 (0, 0)).1 (vs.getD 1 (0, 0)).2
    | .inr e => ((0, 0), e)
def ExOk (l : List Nd) : Prop := ∀ p (hp : p < l.length), 20 ≤ l[p].kd → l[p].kd ≤ 27 → l[p].ks.length ≤ 2 ∧ (l[p].kd = 21 → l[p].n = 0 ∨ l[p].n = 1) ∧ ∀ k ∈ l[p].ks, ∃ i : Nat, k = (i : Int) ∧ i < p ∧ ∃ hi : i < l.length, 20 ≤ l[i].kd ∧ l[i].kd ≤ 27
section
variable {w : World} {A : Option Addr} {n : Nat} {l : List Nd} {B : Option Addr} {ns : List NV} {base g : Nat} {v : Value} {vs : List Value} {L : List (List Int)}
theorem kid_err {ev : Nat → (Int × Int) × Int} : ∀ (ks : List Int) (i : Nat) (hi : i < ks.length), (∀ j (hj : j < ks.length), j < i → (ev (ks[j]).toNat).2 = 0) → (ev (ks[i]).toNat).2 ≠ 0 → kidV ev ks = .inr (ev (ks[i]).toNat).2
  | [], i, hi, _, _ => absurd hi (Nat.not_lt_zero i)
  | k :: r, 0, _, _, h => by unfold kidV; rw [if_neg (show (ev k.toNat).2 ≠ 0 from h)]; rfl
  | k :: r, i + 1, hi, h0, h => by
    have e0 := h0 0 (by simp) (by omega)
    have e1 := kid_err (ev := ev) r i (by simpa using hi) (fun j hj hji => h0 (j + 1) (by simpa using hj) (by omega)) h
    unfold kidV
    rw [if_pos (show (ev k.toNat).2 = 0 from e0), e1]
    rfl
theorem kid_all {ev : Nat → (Int × Int) × Int} : ∀ (ks : List Int), (∀ j (hj : j < ks.length), (ev (ks[j]).toNat).2 = 0) → kidV ev ks = .inl (ks.map fun k => (ev k.toNat).1)
  | [], _ => rfl
  | k :: r, h => by
    have e0 := h 0 (by simp)
    unfold kidV
    rw [if_pos (show (ev k.toNat).2 = 0 from e0), kid_all r (fun j hj => h (j + 1) (by simpa using hj))]
    rfl
def opnd (ev : Nat → (Int × Int) × Int) (ks : List Int) (i j : Nat) : Int × Int := if j < i then ((ks.map fun k => (ev k.toNat).1).getD j (0, 0)) else (0, 0)
theorem opnd_new {ev : Nat → (Int × Int) × Int} {ks : List Int} {i : Nat} (h : i < ks.length) : opnd ev ks (i + 1) i = (ev (ks[i]).toNat).1 := by
  unfold opnd
  rw [if_pos (by omega), List.getD_eq_getElem?_getD, List.getElem?_map, List.getElem?_eq_getElem h]; rfl
theorem opnd_old {ev : Nat → (Int × Int) × Int} {ks : List Int} {i j : Nat} (h : j ≠ i) : opnd ev ks (i + 1) j = opnd ev ks i j := by
  unfold opnd
  by_cases h2 : j < i
  · rw [if_pos (by omega), if_pos h2]
  · rw [if_neg (by omega), if_neg h2]
theorem evV_err {r : Int} {f p : Nat} {e : Int} (h : kidV (evV l r ns L f) (Ty.Tr.nth l p).ks = .inr e) : evV l r ns L (f + 1) p = ((0, 0), e) := by unfold evV; rw [h]
theorem evV_all {r : Int} {f p : Nat} (h : ∀ j (hj : j < (Ty.Tr.nth l p).ks.length), (evV l r ns L f ((Ty.Tr.nth l p).ks[j]).toNat).2 = 0) : evV l r ns L (f + 1) p = mdV l r ns L p (Ty.Tr.nth l p)
    (opnd (evV l r ns L f) (Ty.Tr.nth l p).ks (Ty.Tr.nth l p).ks.length 0).1 (opnd (evV l r ns L f) (Ty.Tr.nth l p).ks (Ty.Tr.nth l p).ks.length 0).2 (opnd (evV l r ns L f) (Ty.Tr.nth l p).ks (Ty.Tr.nth l p).ks.length 1).1 (opnd (evV l r ns L f) (Ty.Tr.nth l p).ks (Ty.Tr.nth l p).ks.length 1).2 := by
  have ho : ∀ j, opnd (evV l r ns L f) (Ty.Tr.nth l p).ks (Ty.Tr.nth l p).ks.length j = ((Ty.Tr.nth l p).ks.map fun k => (evV l r ns L f k.toNat).1).getD j (0, 0) := fun j => by
    unfold opnd
    by_cases h : j < (Ty.Tr.nth l p).ks.length
    · rw [if_pos h]
    · rw [if_neg h, List.getD_eq_getElem?_getD, List.getElem?_eq_none (by rw [List.length_map]; omega)]; rfl
  rw [ho, ho]
  rw [evV, kid_all _ h]
set_option maxRecDepth 100000 in
set_option maxHeartbeats 2000000 in
theorem eval_any (hx : ExOk l) (c d : Nat) (r : Int) : ∀ (f p : Nat) (w : World), Sc w A n l B ns base g v vs L → p < f → (hp : p < l.length) → 20 ≤ l[p].kd → l[p].kd ≤ 27 → Calls Try.prog 25 #[.agg (scn A n c r B ns.length d g), .int .i64 (p : Int)] w (VI (evV l r ns L f p).1.1 (evV l r ns L f p).1.2 (evV l r ns L f p).2 w) := by
  intro f
  induction f with
  | zero => intro p w h hf; exact absurd hf (Nat.not_lt_zero p)
  | succ f ih =>
    intro p w h hf hpl hk1 hk2
    have IH := Lib.hid (fun (k : Nat) (W : World) (b : Below w.heap.size w W) (hk : k < p) (hkl : k < l.length) (h1 : 20 ≤ l[k].kd) (h2 : l[k].kd ≤ 27) => ih k W (h.below b) (by omega) hkl h1 h2)
    have hln := h.tt.len
    have HMD := Lib.hid (fun (W : World) (b : Below w.heap.size w W) (k1 n1 k2 n2 : Int) => made_any (h.below b) c d r p (by omega) ⟨hk1, hk2⟩ (hx p hpl hk1 hk2).2.1 k1 n1 k2 n2)
    have HEX := Lib.hid (hx p hpl hk1 hk2)
    obtain ⟨m, hm⟩ : ∃ m, ns.length = m := ⟨_, rfl⟩
    unfold scn at IH HMD ⊢
    rw [hm] at IH HMD ⊢
    have hpz : (p : Int) < (n : Int) := by omega
    have hnth : Ty.Tr.nth l p = l[p] := Ty.Tr.nth_eq hpl
    have hex := hx p hpl hk1 hk2
    obtain ⟨bA, off, K, cK, e0, xt, x0, x1, x2, x3, x4, xI⟩ := Ty.node_at h.tt.nds (Below.refl _ w) p hpl
    subst e0
    obtain ⟨q, hq⟩ : ∃ q, l[p]'hpl = q := ⟨_, rfl⟩
    simp only [hq] at x0 x1 x2 x3 x4 xI HMD HEX hnth hex
    obtain ⟨kd, nn, pl, tx, ks⟩ := q
    dsimp only at x0 x1 x2 x3 x4 xI HEX HMD hex
    obtain ⟨mk, hmk⟩ : ∃ mk, ks.length = mk := ⟨_, rfl⟩
    rw [hmk] at x4
    have hm2 : mk ≤ 2 := by rw [← hmk]; exact hex.1
    have HMK := Lib.hid hmk
    have HXI := Lib.hid xI
    have HNT := Lib.hid hnth
    have hX0 := (((Bx.new w 67 [.slice (some ⟨bA, off, none⟩) n c, .int .i64 r, .slice B m d, .pointer (some ⟨g, 0, none⟩)]).alloc (.cells #[.int .i64 0, .int .i64 0] 41)).alloc (.cells #[.int .i64 0, .int .i64 0, .int .i64 0, .int .i64 0] 93))
    have hX1 := (Bx.new (w.alloc (.cells #[.slice (some ⟨bA, off, none⟩) n c, .int .i64 r, .slice B m d, .pointer (some ⟨g, 0, none⟩)] 67)) 41 [.int .i64 0, .int .i64 0]).alloc (.cells #[.int .i64 0, .int .i64 0, .int .i64 0, .int .i64 0] 93)
    have hX2 := Bx.new ((w.alloc (.cells #[.slice (some ⟨bA, off, none⟩) n c, .int .i64 r, .slice B m d, .pointer (some ⟨g, 0, none⟩)] 67)).alloc (.cells #[.int .i64 0, .int .i64 0] 41)) 93 [.int .i64 0, .int .i64 0, .int .i64 0, .int .i64 0]
    simp only [World.size_alloc] at hX1 hX2
    have hb0 : Below w.heap.size w (((w.alloc (.cells #[.slice (some ⟨bA, off, none⟩) n c, .int .i64 r, .slice B m d, .pointer (some ⟨g, 0, none⟩)] 67)).alloc (.cells #[.int .i64 0, .int .i64 0] 41)).alloc (.cells #[.int .i64 0, .int .i64 0, .int .i64 0, .int .i64 0] 93)) := ((heap1 _ _).alloc (by simp only [World.size_alloc]; omega) _).alloc (by simp only [World.size_alloc]; omega) _
    obtain ⟨W0, hW0⟩ : ∃ W0, (((w.alloc (.cells #[.slice (some ⟨bA, off, none⟩) n c, .int .i64 r, .slice B m d, .pointer (some ⟨g, 0, none⟩)] 67)).alloc (.cells #[.int .i64 0, .int .i64 0] 41)).alloc (.cells #[.int .i64 0, .int .i64 0, .int .i64 0, .int .i64 0] 93)) = W0 := ⟨_, rfl⟩
    have HX0 := Lib.hid (show Bx W0 w.heap.size 67 [.slice (some ⟨bA, off, none⟩) n c, .int .i64 r, .slice B m d, .pointer (some ⟨g, 0, none⟩)] by rw [← hW0]; exact hX0)
    have HX1 := Lib.hid (show Bx W0 (w.heap.size + 1) 41 [.int .i64 0, .int .i64 0] by rw [← hW0]; exact hX1)
    have HX2 := Lib.hid (show Bx W0 (w.heap.size + 1 + 1) 93 [.int .i64 0, .int .i64 0, .int .i64 0, .int .i64 0] by rw [← hW0]; exact hX2)
    rw [hW0] at hb0
    have HB0 := Lib.hid hb0
    have y4 := (hb0.cell (p := ⟨bA, off + p * 5 + 4, none⟩) xt).trans x4
    have b0 := (HX0.out.cell 0).trans rfl
    clear hln h ih hX0 hX1 hX2 hb0 x0 x1 x2 x3 x4 xI hex hnth hmk hm
    go_enter Try.func25, Try.ntmps25
    go_wp2
    clear b0 y4 hW0
    go_loopw [19] (fun v19 wr => ∃ i : Nat, i ≤ mk ∧ v19 = .int .i64 (i : Int) ∧ (∀ j (hj : j < ks.length), j < i → (evV l r ns L f (ks[j]).toNat).2 = 0) ∧ Below w.heap.size w wr ∧ Bx wr w.heap.size 67 [.slice (some ⟨bA, off, none⟩) n c, .int .i64 r, .slice B m d, .pointer (some ⟨g, 0, none⟩)] ∧ Bx wr (w.heap.size + 1) 41 [.int .i64 0, .int .i64 0] ∧ Bx wr (w.heap.size + 1 + 1) 93 [.int .i64 (opnd (evV l r ns L f) ks i 0).1, .int .i64 (opnd (evV l r ns L f) ks i 0).2, .int .i64 (opnd (evV l r ns L f) ks i 1).1, .int .i64 (opnd (evV l r ns L f) ks i 1).2]) (fun v19 _ => mk - (intOf v19).toNat)
    case atStart => exact ⟨0, Nat.zero_le _, rfl, fun j _ h => absurd h (Nat.not_lt_zero j), HB0.out, HX0.out, HX1.out, HX2.out⟩
    case round =>
      obtain ⟨i, hi, rfl, herr, hb, z0, z1, z2⟩ := hrel
      obtain ⟨W1, rfl⟩ : ∃ W1, W1 = wr := ⟨_, rfl⟩
      by_cases hlt : i < mk
      · have hiz : (i : Int) < (mk : Int) := by omega
        have hil : i < ks.length := by rw [HMK.out]; exact hlt
        obtain ⟨k, hk, hkp, hkl, g1, g2⟩ := HEX.out.2.2 (ks[i]'hil) (List.getElem_mem hil)
        have HIH := Lib.hid (IH.out k W1 hb hkp hkl g1 g2)
        obtain ⟨bK, oK, rfl, hbK, hcK⟩ := (HXI.out.below hb) (by omega)
        have xk := hcK i hil
        rw [hk] at xk
        obtain ⟨⟨⟨u1, u2⟩, e1⟩, hu⟩ : ∃ R, evV l r ns L f k = R := ⟨_, rfl⟩
        rw [hu] at HIH
        dsimp only at HIH
        have b0 := (z0.cell 0).trans rfl
        have b1 := (z0.cell 1).trans rfl
        have b2 := (z0.cell 2).trans rfl
        have b3 := (z0.cell 3).trans rfl
        have HZ := Lib.hid (And.intro herr (And.intro hb (And.intro z0 (And.intro z1 (And.intro z2 hu)))))
        have HKI := Lib.hid hk
        clear herr hb z0 z1 z2 hu hk hcK hkp hkl g1 g2
        go_wp2_with (go_at_call 25; refine HIH.out.mono ?_)
        rintro e w3 ⟨rfl, hb3⟩
        have hbA : Below W1.heap.size W1 (w3.alloc (.cells #[.int .i64 u1, .int .i64 u2] 41)) := hb3.alloc hb3.size _
        obtain ⟨herr, hb, z0, z1, z2, hu⟩ := HZ.out
        have y0 := z0.below hbA z0.lt
        have y1 := z1.below hbA z1.lt
        have y2 := z2.below hbA z2.lt
        have hbw := bt hb hbA
        have HR := Lib.hid (And.intro herr (And.intro hbw (And.intro y0 (And.intro y1 (And.intro y2 hu)))))
        have HLT := Lib.hid hlt
        by_cases he : e1 = 0
        · subst he
          rcases (show i = 0 ∨ i = 1 by omega) with rfl | rfl
          · have c0 := (y2.cell 0).trans rfl
            have c1 := (y2.cell 1).trans rfl
            have f0 := y2.frozen 0
            have f1 := y2.frozen 1
            clear herr hb z0 z1 z2 hbA hbw y0 y1 y2 hu hb3 b0 b1 b2 b3 xk hi
            go_wp2
            go_roundw
            case measure => have := HLT.out; simp [intOf]; omega
            case rel =>
              obtain ⟨herr, hbw, y0, y1, y2, hu⟩ := HR.out
              have hil : 0 < ks.length := by rw [HMK.out]; exact HLT.out
              have hek : evV l r ns L f (ks[0]'hil).toNat = ((u1, u2), 0) := by rw [HKI.out, Int.toNat_natCast]; exact hu
              refine ⟨0 + 1, HLT.out, by go_num, fun j hj hji => ?_, (hbw.setCell (p := ⟨w.heap.size + 1 + 1, 0, none⟩) (by show w.heap.size ≤ w.heap.size + 1 + 1; omega) _).setCell (p := ⟨w.heap.size + 1 + 1, 1, none⟩) (by show w.heap.size ≤ w.heap.size + 1 + 1; omega) _,
                (y0.far (p := ⟨w.heap.size + 1 + 1, 0, none⟩) (by show w.heap.size ≠ w.heap.size + 1 + 1; omega) _).far (p := ⟨w.heap.size + 1 + 1, 1, none⟩) (by show w.heap.size ≠ w.heap.size + 1 + 1; omega) _,
                (y1.far (p := ⟨w.heap.size + 1 + 1, 0, none⟩) (by show w.heap.size + 1 ≠ w.heap.size + 1 + 1; omega) _).far (p := ⟨w.heap.size + 1 + 1, 1, none⟩) (by show w.heap.size + 1 ≠ w.heap.size + 1 + 1; omega) _, ?_⟩
              · by_cases e : j = 0
                · subst e; rw [hek]
                · exact herr j hj (by omega)
              · have z := (y2.set_ 0 (.int .i64 u1)).set_ 1 (.int .i64 u2)
                have hn : opnd (evV l r ns L f) ks (0 + 1) 0 = (u1, u2) := by rw [opnd_new hil, hek]
                have ho : opnd (evV l r ns L f) ks (0 + 1) 1 = opnd (evV l r ns L f) ks 0 1 := opnd_old (by decide)
                rw [hn, ho]
                exact z
          · have c0 := (y2.cell 2).trans rfl
            have c1 := (y2.cell 3).trans rfl
            have f0 := y2.frozen 2
            have f1 := y2.frozen 3
            clear herr hb z0 z1 z2 hbA hbw y0 y1 y2 hu hb3 b0 b1 b2 b3 xk hi
            go_wp2
            go_roundw
            case measure => have := HLT.out; simp [intOf]; omega
            case rel =>
              obtain ⟨herr, hbw, y0, y1, y2, hu⟩ := HR.out
              have hil : 1 < ks.length := by rw [HMK.out]; exact HLT.out
              have hek : evV l r ns L f (ks[1]'hil).toNat = ((u1, u2), 0) := by rw [HKI.out, Int.toNat_natCast]; exact hu
              refine ⟨1 + 1, HLT.out, by go_num, fun j hj hji => ?_, (hbw.setCell (p := ⟨w.heap.size + 1 + 1, 2, none⟩) (by show w.heap.size ≤ w.heap.size + 1 + 1; omega) _).setCell (p := ⟨w.heap.size + 1 + 1, 3, none⟩) (by show w.heap.size ≤ w.heap.size + 1 + 1; omega) _,
                (y0.far (p := ⟨w.heap.size + 1 + 1, 2, none⟩) (by show w.heap.size ≠ w.heap.size + 1 + 1; omega) _).far (p := ⟨w.heap.size + 1 + 1, 3, none⟩) (by show w.heap.size ≠ w.heap.size + 1 + 1; omega) _,
                (y1.far (p := ⟨w.heap.size + 1 + 1, 2, none⟩) (by show w.heap.size + 1 ≠ w.heap.size + 1 + 1; omega) _).far (p := ⟨w.heap.size + 1 + 1, 3, none⟩) (by show w.heap.size + 1 ≠ w.heap.size + 1 + 1; omega) _, ?_⟩
              · by_cases e : j = 1
                · subst e; rw [hek]
                · exact herr j hj (by omega)
              · have z := (y2.set_ 2 (.int .i64 u1)).set_ 3 (.int .i64 u2)
                have hn : opnd (evV l r ns L f) ks (1 + 1) 1 = (u1, u2) := by rw [opnd_new hil, hek]
                have ho : opnd (evV l r ns L f) ks (1 + 1) 0 = opnd (evV l r ns L f) ks 1 0 := opnd_old (by decide)
                rw [hn, ho]
                exact z
        · have hne : (e1 != 0) = true := by simpa using he
          have HO := Lib.hid (show evV l r ns L (f + 1) p = ((0, 0), e1) from evV_err (by
            rw [HNT.out]
            have hek : evV l r ns L f (ks[i]'hil).toNat = ((u1, u2), e1) := by rw [HKI.out, Int.toNat_natCast]; exact hu
            have := kid_err (ev := evV l r ns L f) ks i hil herr (by rw [hek]; exact he)
            rw [hek] at this
            exact this))
          have c0 := (y1.cell 0).trans rfl
          have c1 := (y1.cell 1).trans rfl
          have f0 := y1.frozen 0
          have f1 := y1.frozen 1
          clear herr hb z0 z1 z2 hbA hbw y0 y1 y2 hu hb3 b0 b1 b2 b3 xk hi he
          go_wp2
          obtain ⟨_, hbw, _, y1, _, _⟩ := HR.out
          have z := (y1.set_ 0 (.int .i64 0)).set_ 1 (.int .i64 0)
          have c0 := (z.cell 0).trans rfl
          have c1 := (z.cell 1).trans rfl
          exact bodyPost_ret (v := .tuple #[.agg #[.int .i64 0, .int .i64 0], .int .i64 e1]) (by simp [results, Try.results25, go_sem, c0, c1]) rfl (by rw [HO.out]; exact ⟨rfl, below2 hbw (by omega)⟩)
      · obtain rfl : i = mk := by omega
        have hiz : ¬ (i : Int) < (i : Int) := by omega
        have HC := Lib.hid (HMD.out W1 hb (opnd (evV l r ns L f) ks i 0).1 (opnd (evV l r ns L f) ks i 0).2 (opnd (evV l r ns L f) ks i 1).1 (opnd (evV l r ns L f) ks i 1).2)
        have hall := evV_all (l := l) (ns := ns) (L := L) (r := r) (f := f) (p := p) (by rw [HNT.out]; exact fun j hj => herr j hj (by rw [← HMK.out]; exact hj))
        rw [HNT.out] at hall
        dsimp only at hall
        rw [HMK.out] at hall
        generalize (opnd (evV l r ns L f) ks i 0).1 = k1 at *
        generalize (opnd (evV l r ns L f) ks i 0).2 = n1 at *
        generalize (opnd (evV l r ns L f) ks i 1).1 = k2 at *
        generalize (opnd (evV l r ns L f) ks i 1).2 = n2 at *
        obtain ⟨⟨⟨v1, v2⟩, e0⟩, hv⟩ : ∃ R, mdV l r ns L p ⟨kd, nn, pl, tx, ks⟩ k1 n1 k2 n2 = R := ⟨_, rfl⟩
        rw [hv] at HC hall
        dsimp only at HC
        have HO := Lib.hid hall
        have b0 := (z0.cell 0).trans rfl
        have b1 := (z0.cell 1).trans rfl
        have b2 := (z0.cell 2).trans rfl
        have b3 := (z0.cell 3).trans rfl
        have d0 := (z2.cell 0).trans rfl
        have d1 := (z2.cell 1).trans rfl
        have d2 := (z2.cell 2).trans rfl
        have d3 := (z2.cell 3).trans rfl
        have HZ := Lib.hid (And.intro hb z1)
        clear herr hb z0 z1 z2 hall hv hi
        go_wp2_with (go_at_call 45; refine HC.out.mono ?_)
        rintro e w3 ⟨rfl, hb3⟩
        have y1 := HZ.out.2.below hb3 HZ.out.2.lt
        have c0 := (y1.cell 0).trans rfl
        have c1 := (y1.cell 1).trans rfl
        have f0 := y1.frozen 0
        have f1 := y1.frozen 1
        clear b0 b1 b2 b3 d0 d1 d2 d3
        go_wp2
        have z := (y1.set_ 0 (.int .i64 v1)).set_ 1 (.int .i64 v2)
        have c0 := (z.cell 0).trans rfl
        have c1 := (z.cell 1).trans rfl
        exact bodyPost_ret (v := .tuple #[.agg #[.int .i64 v1, .int .i64 v2], .int .i64 e0]) (by simp [results, Try.results25, go_sem, c0, c1]) rfl (by rw [HO.out]; exact ⟨rfl, below2 (bt HZ.out.1 hb3) (by omega)⟩)
end
end Go.Proofs.Ytignojhijmamhaa
