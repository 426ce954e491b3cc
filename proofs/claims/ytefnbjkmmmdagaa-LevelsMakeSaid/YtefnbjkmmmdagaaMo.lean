/- PROVED here: the document's lattice in memory, row by row; the contract of its close. No condition but those in each theorem's own head. -/
import Derived.Test.YtefnbjkmmmdagaaMa
import Derived.Test.YtefnbjkmmmdagaaMn
import Derived.Deep.LoopGhost
import Derived.Deep.Light
namespace Go.Proofs.Ytefnbjkmmmdagaa
open Go Go.RowKit

def mkB (n : Nat) (m : Nat → Bool) : Array Value := Array.ofFn (n := n) fun i => .bool (m i)
theorem mkB_size (n : Nat) (m : Nat → Bool) : (mkB n m).size = n := by simp [mkB]
theorem mkB_get {n : Nat} {m : Nat → Bool} {i : Nat} (h : i < n) : (mkB n m)[i]? = some (.bool (m i)) := by simp [mkB, h]
theorem mkB_set {n : Nat} {m : Nat → Bool} {i : Nat} {x : Bool} : (mkB n m).setIfInBounds i (.bool x) = mkB n (fun j => if j = i then x else m j) := by
  apply Array.ext_getElem?
  intro j
  rw [Array.getElem?_setIfInBounds]
  by_cases h : i = j
  · subst h
    by_cases hk : i < n <;> simp [mkB, hk]
  · have h' : ¬ j = i := fun e => h e.symm
    rw [if_neg h]
    by_cases hi : j < n
    · rw [mkB_get hi, mkB_get hi, if_neg h']
    · rw [Array.getElem?_eq_none (by rw [mkB_size]; omega), Array.getElem?_eq_none (by rw [mkB_size]; omega)]
theorem mkB_congr {n : Nat} {m m' : Nat → Bool} (h : ∀ i, i < n → m i = m' i) : mkB n m = mkB n m' := by
  unfold mkB; congr 1; funext i; rw [h i i.2]
/-- a row of Bools in a block of its own -/
def BB (w : World) (g n : Nat) (m : Nat → Bool) : Prop := w.heap[g]? = some (.cells (mkB n m) 4 (0, 0))
section
variable {w w' : World} {g n : Nat} {m : Nat → Bool}
theorem BB.lt (h : BB w g n m) : g < w.heap.size := (Array.getElem?_eq_some_iff.1 h).1
theorem BB.cell (h : BB w g n m) {i : Nat} (hi : i < n) : w.cell? ⟨g, i, none⟩ = some (.bool (m i)) := (cell_of_row w g i _ 4 (0, 0) h).trans (mkB_get hi)
theorem BB.frozen (h : BB w g n m) (i : Nat) : w.frozen? ⟨g, i, none⟩ = false := frozen_of_row w g i _ 4 h
theorem BB.set_ (h : BB w g n m) (i : Nat) (x : Bool) : BB (w.setCell ⟨g, i, none⟩ (.bool x)) g n (fun j => if j = i then x else m j) := (heap_setCell_same w g i _ 4 _ h).trans (by rw [mkB_set])
theorem BB.far (h : BB w g n m) {p : Addr} (hp : g ≠ p.block) (u : Value) : BB (w.setCell p u) g n m := (heap_setCell_other w p g u hp).trans h
theorem BB.below {B : Nat} (h : BB w g n m) (hb : Below B w w') (hg : g < B) : BB w' g n m := (hb.block g hg).trans h
theorem BB.grown {row : Option Nat} (h : BB w g n m) (hb : w.grownBy w' row) (hg : some g ≠ row) : BB w' g n m := (hb.block g h.lt hg).trans h
theorem BB.congr {m' : Nat → Bool} (h : BB w g n m) (e : ∀ i, i < n → m i = m' i) : BB w g n m' := by unfold BB at *; rw [h, mkB_congr e]
end
/-- the document's lattice, with the places of its parts -/
structure RLx (w : World) (g : Nat) (l : List ByteArray) (A : Option Addr) (c r cr : Nat) (R : Nat → Nat) (U : Nat → Nat → Bool) : Prop where
  names : w.cell? ⟨g, 0, none⟩ = some (.slice A l.length c)
  strs : Strs w A l
  under : w.cell? ⟨g, 1, none⟩ = some (.slice (some ⟨r, 0, none⟩) l.length cr)
  rows : ∀ i, i < l.length → w.cell? ⟨r, i, none⟩ = some (.slice (some ⟨R i, 0, none⟩) l.length l.length)
  bits : ∀ i, i < l.length → BB w (R i) l.length (U i)
  inj : ∀ i j, i < l.length → j < l.length → R i = R j → i = j
section
variable {w w' : World} {g : Nat} {l : List ByteArray} {A : Option Addr} {c r cr : Nat} {R : Nat → Nat} {U : Nat → Nat → Bool}
theorem RLx.lat (h : RLx w g l A c r cr R U) : RLat w g l U := ⟨A, c, r, cr, R, h.names, h.strs, h.under, h.rows, fun i _ hi hj => (h.bits i hi).cell hj⟩
theorem cell_far {b a : Nat} {u : Value} (hn : b ≠ a) (i o : Nat) : (w.setCell ⟨a, i, none⟩ u).cell? ⟨b, o, none⟩ = w.cell? ⟨b, o, none⟩ := by
  have h := heap_setCell_other w ⟨a, i, none⟩ b u hn
  unfold World.cell?; rw [h]
theorem RLx.put (h : RLx w g l A c r cr R U) {a b : Nat} (ha : a < l.length) (hb : b < l.length) : RLx (w.setCell ⟨R a, b, none⟩ (.bool true)) g l A c r cr R (putB U a b) := by
  have h0 := (h.bits a ha).cell (i := 0) (by omega)
  have ng : g ≠ R a := fun e => by
    have := h.names
    rw [e, h0] at this; cases this
  have nr : r ≠ R a := fun e => by
    have := h.rows 0 (by omega)
    rw [e, h0] at this; cases this
  refine ⟨(cell_far ng _ _).trans h.names, fun hp => ?_, (cell_far ng _ _).trans h.under, fun i hi => (cell_far nr _ _).trans (h.rows i hi), fun i hi => ?_, h.inj⟩
  · obtain ⟨sb, so, e, hl, hc⟩ := h.strs hp
    have ns : sb ≠ R a := fun e2 => by
      have h1 := World.cell?_setCell_other w
      have h2 := hc 0 hp
      rw [e2] at h2
      have h3 := h.bits a ha
      by_cases q : so + 0 < l.length
      · rw [h3.cell q] at h2; cases h2
      · have h4 : w.cell? ⟨R a, so + 0, none⟩ = none := (cell_of_row w (R a) (so + 0) _ 4 (0, 0) h3).trans (Array.getElem?_eq_none (by rw [mkB_size]; omega))
        rw [h4] at h2; cases h2
    exact ⟨sb, so, e, by rw [World.size_setCell]; exact hl, fun j hj => (cell_far ns _ _).trans (hc j hj)⟩
  · by_cases e : i = a
    · subst e
      refine ((h.bits i hi).set_ b true).congr fun j hj => ?_
      unfold putB
      by_cases q : j = b
      · rw [if_pos q, if_pos ⟨rfl, q⟩]
      · rw [if_neg q, if_neg (fun h => q h.2)]
    · refine ((h.bits i hi).far (p := ⟨R a, b, none⟩) (fun e2 => e (h.inj i a hi ha e2)) _).congr fun j hj => ?_
      unfold putB
      rw [if_neg (fun h => e h.1)]
end
/-- what close has come to -/
def CloI (w0 : World) (base g : Nat) (l : List ByteArray) (A : Option Addr) (c r cr : Nat) (R : Nat → Nat) (U : Nat → Nat → Bool) (V : Nat → Nat → Bool) (w : World) : Prop :=
  LeB l.length U V ∧ (∀ T, TransB l.length T → LeB l.length U T → LeB l.length V T) ∧ RLx w g l A c r cr R V ∧ Below base w0 w
theorem CloI.put {w0 w : World} {base g : Nat} {l : List ByteArray} {A : Option Addr} {c r cr : Nat} {R : Nat → Nat} {U V : Nat → Nat → Bool} (h : CloI w0 base g l A c r cr R U V w) {a b d : Nat} (ha : a < l.length) (hb : b < l.length) (hd : d < l.length) (h1 : V a b = true) (h2 : V b d = true) (hR : base ≤ R a) : CloI w0 base g l A c r cr R U (putB V a d) (w.setCell ⟨R a, d, none⟩ (.bool true)) :=
  ⟨fun x y hx hy e => putB_le x y hx hy (h.1 x y hx hy e), fun T hT hU => putB_min ha hb hd h1 h2 hT (h.2.1 T hT hU), h.2.2.1.put ha hd, h.2.2.2.setCell (p := ⟨R a, d, none⟩) hR _⟩
/-- where the three loops are -/
def CloA (n : Nat) (F : Nat) (V : Nat → Nat → Bool) (ag : Bool) (a b d : Nat) : Prop := (ag = false → Ahead n V a b d ∧ fal n V ≤ F) ∧ (ag = true → fal n V + 1 ≤ F)
set_option maxRecDepth 100000 in
set_option maxHeartbeats 1500000 in
theorem rclose_any (g : Nat) (l : List ByteArray) (A : Option Addr) (c r cr : Nat) (R : Nat → Nat) (U : Nat → Nat → Bool) (base : Nat) (w : World) (h : RLx w g l A c r cr R U) (hl : l.length ≤ 1000) (hR : ∀ i, i < l.length → base ≤ R i) :
    Calls Try.prog 42 #[.pointer (some ⟨g, 0, none⟩)] w fun e w' => e = .returned (.tuple #[]) ∧ ∃ V, CloB l.length U V ∧ RLx w' g l A c r cr R V ∧ Below base w w' := by
  have h0 : CloI w base g l A c r cr R U U w := ⟨fun _ _ _ _ e => e, fun _ _ hU => hU, h, Below.refl _ _⟩
  have HR := Lib.hid hR
  have hnm := h.names
  have H0 := Lib.hid h0
  clear h hR h0
  obtain ⟨n, hn⟩ : ∃ n, n = l.length := ⟨_, rfl⟩
  have HN := Lib.hid hn
  rw [← hn] at hnm hl
  clear hn
  go_enter Try.func42, Try.ntmps42
  go_wp2
  clear hnm
  go_loopg [3] (fal n U + 1) (fun gk a3 wr => ∃ V ag, a3 = .bool ag ∧ CloI w base g l A c r cr R U V wr ∧ (ag = false → TransB n V) ∧ fal n V + (if ag then 1 else 0) ≤ gk)
  case atStart => exact ⟨U, true, rfl, H0.out, (fun h => by cases h), Nat.le_refl _⟩
  case round =>
    clear H0
    obtain ⟨V, ag, rfl, hI, hT, hg⟩ := hrel
    cases ag with
    | false =>
      have HF := Lib.hid (And.intro hI hT)
      clear hI hT hg
      go_wp2
      go_end0
      exact ⟨rfl, V, ⟨HF.out.1.1, by rw [← HN.out]; exact HF.out.2 trivial, HF.out.1.2.1⟩, HF.out.1.2.2.1, HF.out.1.2.2.2⟩
    | true =>
      obtain ⟨F, hF⟩ : ∃ F, F = fal n V := ⟨_, rfl⟩
      have HG := Lib.hid (show F + 1 ≤ gk by rw [hF]; exact hg)
      have HI := Lib.hid (And.intro hI (show CloA n F V false 0 0 0 from ⟨fun _ => ⟨Ahead.nil, Nat.le_of_eq hF.symm⟩, fun h => by cases h⟩))
      clear hI hT hg hF
      go_wp2
      go_loopg [3, 4] n (fun ga a3 a4 wz => ∃ V ag, ∃ a : Nat, a3 = .bool ag ∧ a4 = .int .i64 (a : Int) ∧ a ≤ n ∧ ga = n - a ∧ CloI w base g l A c r cr R U V wz ∧ CloA n F V ag a 0 0)
      case atStart => exact ⟨V, false, 0, rfl, rfl, Nat.zero_le _, rfl, HI.out.1, HI.out.2⟩
      case round =>
        clear HI
        obtain ⟨V, ag, a, rfl, rfl, ha, rfl, hI, hA⟩ := hrel
        have HI := Lib.hid (And.intro hI hA)
        clear hI hA
        by_cases hlt : a < n
        · have hlz : (a : Int) < (n : Int) := by omega
          go_wp2
          go_loopg [3, 5] n (fun gb a3 a5 wz => ∃ V ag, ∃ b : Nat, a3 = .bool ag ∧ a5 = .int .i64 (b : Int) ∧ b ≤ n ∧ gb = n - b ∧ CloI w base g l A c r cr R U V wz ∧ CloA n F V ag a b 0)
          case atStart => exact ⟨V, ag, 0, rfl, rfl, Nat.zero_le _, rfl, HI.out.1, HI.out.2⟩
          case round =>
            clear HI
            obtain ⟨V, ag, b, rfl, rfl, hb, rfl, hI, hA⟩ := hrel
            have HI := Lib.hid (And.intro hI hA)
            clear hI hA
            by_cases hbt : b < n
            · have hbz : (b : Int) < (n : Int) := by omega
              go_wp2
              go_loopg [3, 6] n (fun gd a3 a6 wz => ∃ V ag, ∃ d : Nat, a3 = .bool ag ∧ a6 = .int .i64 (d : Int) ∧ d ≤ n ∧ gd = n - d ∧ CloI w base g l A c r cr R U V wz ∧ CloA n F V ag a b d)
              case atStart => exact ⟨V, ag, 0, rfl, rfl, Nat.zero_le _, rfl, HI.out.1, HI.out.2⟩
              case round =>
                clear HI
                obtain ⟨V, ag, d, rfl, rfl, hd, rfl, hI, hA⟩ := hrel
                by_cases hdt : d < n
                · have hdz : (d : Int) < (n : Int) := by omega
                  have hX := hI.2.2.1
                  have c1 := hX.under
                  have c2 := hX.rows a (by rw [← HN.out]; exact hlt)
                  have c3 := hX.rows b (by rw [← HN.out]; exact hbt)
                  have c4 := (hX.bits a (by rw [← HN.out]; exact hlt)).cell (i := b) (by rw [← HN.out]; exact hbt)
                  have c5 := (hX.bits b (by rw [← HN.out]; exact hbt)).cell (i := d) (by rw [← HN.out]; exact hdt)
                  have c6 := (hX.bits a (by rw [← HN.out]; exact hlt)).cell (i := d) (by rw [← HN.out]; exact hdt)
                  have f6 := (hX.bits a (by rw [← HN.out]; exact hlt)).frozen d
                  rw [← HN.out] at c1 c2 c3
                  have HI := Lib.hid (And.intro hI hA)
                  clear hX hI hA
                  cases v1 : V a b with
                  | false =>
                    rw [v1] at c4
                    clear c5 c6 f6 c3
                    have HV := Lib.hid v1
                    clear v1
                    go_wp2
                    go_roundg (n - (d + 1))
                    case measure => go_light; omega
                    case rel =>
                      go_light
                      exact ⟨V, ag, d + 1, rfl, by go_num, by omega, rfl, HI.out.1, (fun h => ⟨((HI.out.2.1 h).1).step (fun e => absurd e (by rw [HV.out]; decide)), (HI.out.2.1 h).2⟩), HI.out.2.2⟩
                  | true =>
                    rw [v1] at c4
                    cases v2 : V b d with
                    | false =>
                      rw [v2] at c5
                      clear c6 f6
                      have HV := Lib.hid v2
                      clear v1 v2
                      go_wp2
                      go_roundg (n - (d + 1))
                      case measure => go_light; omega
                      case rel =>
                        go_light
                        exact ⟨V, ag, d + 1, rfl, by go_num, by omega, rfl, HI.out.1, (fun h => ⟨((HI.out.2.1 h).1).step (fun _ e => absurd e (by rw [HV.out]; decide)), (HI.out.2.1 h).2⟩), HI.out.2.2⟩
                    | true =>
                      rw [v2] at c5
                      cases v3 : V a d with
                      | true =>
                        rw [v3] at c6
                        have HV := Lib.hid v3
                        clear v1 v2 v3
                        go_wp2
                        go_roundg (n - (d + 1))
                        case measure => go_light; omega
                        case rel =>
                          go_light
                          exact ⟨V, ag, d + 1, rfl, by go_num, by omega, rfl, HI.out.1, (fun h => ⟨((HI.out.2.1 h).1).step (fun _ _ => HV.out), (HI.out.2.1 h).2⟩), HI.out.2.2⟩
                      | false =>
                        rw [v3] at c6
                        have HV := Lib.hid (And.intro v1 (And.intro v2 v3))
                        clear v1 v2 v3
                        go_wp2
                        go_roundg (n - (d + 1))
                        case measure => go_light; omega
                        case rel =>
                          go_light
                          obtain ⟨v1, v2, v3⟩ := HV.out
                          have k1 : a < l.length := by rw [← HN.out]; exact hlt
                          have k2 : b < l.length := by rw [← HN.out]; exact hbt
                          have k3 : d < l.length := by rw [← HN.out]; exact hdt
                          have k4 := fal_put (n := n) hlt hdt v3
                          refine ⟨putB V a d, true, d + 1, rfl, by go_num, by omega, rfl, HI.out.1.put k1 k2 k3 v1 v2 (HR.out a k1), (fun h => by cases h), fun _ => ?_⟩
                          cases hag : ag with
                          | false => have := (HI.out.2.1 hag).2; omega
                          | true => have := HI.out.2.2 hag; omega
                · obtain rfl : d = n := by omega
                  have hdz : ¬ ((d : Int) < (d : Int)) := by omega
                  have HI := Lib.hid (And.intro hI hA)
                  clear hI hA
                  go_wp2
                  go_roundg (d - (b + 1))
                  case measure => go_light; omega
                  case rel =>
                    go_light
                    exact ⟨V, ag, b + 1, rfl, by go_num, by omega, rfl, HI.out.1, (fun h => ⟨(HI.out.2.1 h).1.row, (HI.out.2.1 h).2⟩), HI.out.2.2⟩
            · obtain rfl : b = n := by omega
              have hbz : ¬ ((b : Int) < (b : Int)) := by omega
              go_wp2
              go_roundg (b - (a + 1))
              case measure => go_light; omega
              case rel =>
                go_light
                exact ⟨V, ag, a + 1, rfl, by go_num, by omega, rfl, HI.out.1, (fun h => ⟨(HI.out.2.1 h).1.col, (HI.out.2.1 h).2⟩), HI.out.2.2⟩
        · obtain rfl : a = n := by omega
          have hlz : ¬ ((a : Int) < (a : Int)) := by omega
          go_wp2
          go_roundg (fal a V + (if ag then 1 else 0))
          case measure =>
            go_light
            have h1 := HG.out
            cases hag : ag with
            | false => have := (HI.out.2.1 hag).2; simp; omega
            | true => have := HI.out.2.2 hag; simp; omega
          case rel =>
            go_light
            exact ⟨V, ag, rfl, HI.out.1, (fun h => (HI.out.2.1 h).1.all), Nat.le_refl _⟩
end Go.Proofs.Ytefnbjkmmmdagaa
