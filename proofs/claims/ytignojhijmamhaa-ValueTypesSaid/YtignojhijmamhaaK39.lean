/- PROVED here: parts Ec Da of the claim. No condition but those in each theorem's own head. -/
import Derived.Test.YtignojhijmamhaaK38
import Derived.Test.YtignojhijmamhaaK27
import Derived.Deep.RegionHeld
import Derived.OrdersHeld
namespace Go.Proofs.Ytignojhijmamhaa
open Go Go.RowKit Go.Sort
open Va (Bx heap1 bt VP VI V2 V3 str_eq str_ne below2 Hp C46 unR binR getV lenH)
open Ty (TT tpT pcT)
open Ty.Tr (Nd)
structure Sc (w : World) (A : Option Addr) (n : Nat) (l : List Nd) (B : Option Addr) (ns : List NV) (base g : Nat) (v : Value) (vs : List Value) (L : List (List Int)) : Prop where
  tt : TT w A n l
  nm : Nms w B ns
  few : ns.length ≤ 4000
  hp : Hp 39 C46 w base g v vs L
theorem Sc.below {w w' : World} {A : Option Addr} {n : Nat} {l : List Nd} {B : Option Addr} {ns : List NV} {base g : Nat} {v : Value} {vs : List Value} {L : List (List Int)} (h : Sc w A n l B ns base g v vs L) (hb : Below w.heap.size w w') : Sc w' A n l B ns base g v vs L :=
  ⟨h.tt.below hb, h.nm.below hb, h.few, h.hp.below hb⟩
noncomputable def opV (l : List Nd) (r : Int) (p : Nat) (q : Nd) (k1 n1 k2 n2 : Int) : (Int × Int) × Int :=
  if q.kd = 26 then (if (unR q.tx k1 n1).2 then ((unR q.tx k1 n1).1, 0) else ((tpT l r p, 0), 0))
  else (if (binR q.tx k1 n1 k2 n2).2.2 then ((binR q.tx k1 n1 k2 n2).1, (binR q.tx k1 n1 k2 n2).2.1) else ((tpT l r p, 0), 0))
section
variable {w : World} {A : Option Addr} {n : Nat} {l : List Nd} {B : Option Addr} {ns : List NV} {base g : Nat} {v : Value} {vs : List Value} {L : List (List Int)}
set_option maxRecDepth 100000 in
set_option maxHeartbeats 2000000 in
theorem operated_any (h : Sc w A n l B ns base g v vs L) (c d : Nat) (r : Int) (p : Nat) (hp : p < n) (hk : (l[p]'(by rw [← h.tt.len]; exact hp)).kd = 26 ∨ (l[p]'(by rw [← h.tt.len]; exact hp)).kd = 27) (k1 n1 k2 n2 : Int) :
    Calls Try.prog 65 #[.agg (scn A n c r B ns.length d g), .int .i64 (p : Int), .agg #[.int .i64 k1, .int .i64 n1, .int .i64 k2, .int .i64 n2]] w (VI (opV l r p (l[p]'(by rw [← h.tt.len]; exact hp)) k1 n1 k2 n2).1.1 (opV l r p (l[p]'(by rw [← h.tt.len]; exact hp)) k1 n1 k2 n2).1.2 (opV l r p (l[p]'(by rw [← h.tt.len]; exact hp)) k1 n1 k2 n2).2 w) := by
  have hpl : p < l.length := by rw [← h.tt.len]; exact hp
  obtain ⟨q, hq⟩ : ∃ q, l[p]'hpl = q := ⟨_, rfl⟩
  rw [hq] at hk ⊢
  unfold scn
  obtain ⟨m, hm⟩ : ∃ m, ns.length = m := ⟨_, rfl⟩
  rw [hm]
  have hX0 := ((Bx.new w 67 [.slice A n c, .int .i64 r, .slice B m d, .pointer (some ⟨g, 0, none⟩)]).alloc (.cells #[.int .i64 k1, .int .i64 n1, .int .i64 k2, .int .i64 n2] 93)).alloc (.cells #[.int .i64 0, .int .i64 0] 41)
  have hX1 := (Bx.new (w.alloc (.cells #[.slice A n c, .int .i64 r, .slice B m d, .pointer (some ⟨g, 0, none⟩)] 67)) 93 [.int .i64 k1, .int .i64 n1, .int .i64 k2, .int .i64 n2]).alloc (.cells #[.int .i64 0, .int .i64 0] 41)
  have hX2 := Bx.new ((w.alloc (.cells #[.slice A n c, .int .i64 r, .slice B m d, .pointer (some ⟨g, 0, none⟩)] 67)).alloc (.cells #[.int .i64 k1, .int .i64 n1, .int .i64 k2, .int .i64 n2] 93)) 41 [.int .i64 0, .int .i64 0]
  simp only [World.size_alloc] at hX1 hX2
  have hb0 : Below w.heap.size w (((w.alloc (.cells #[.slice A n c, .int .i64 r, .slice B m d, .pointer (some ⟨g, 0, none⟩)] 67)).alloc (.cells #[.int .i64 k1, .int .i64 n1, .int .i64 k2, .int .i64 n2] 93)).alloc (.cells #[.int .i64 0, .int .i64 0] 41)) := ((heap1 _ _).alloc (by simp only [World.size_alloc]; omega) _).alloc (by simp only [World.size_alloc]; omega) _
  obtain ⟨W0, hW0⟩ : ∃ W0, (((w.alloc (.cells #[.slice A n c, .int .i64 r, .slice B m d, .pointer (some ⟨g, 0, none⟩)] 67)).alloc (.cells #[.int .i64 k1, .int .i64 n1, .int .i64 k2, .int .i64 n2] 93)).alloc (.cells #[.int .i64 0, .int .i64 0] 41)) = W0 := ⟨_, rfl⟩
  have HX0 := Lib.hid (show Bx W0 w.heap.size 67 [.slice A n c, .int .i64 r, .slice B m d, .pointer (some ⟨g, 0, none⟩)] by rw [← hW0]; exact hX0)
  have HX1 := Lib.hid (show Bx W0 (w.heap.size + 1) 93 [.int .i64 k1, .int .i64 n1, .int .i64 k2, .int .i64 n2] by rw [← hW0]; exact hX1)
  have HX2 := Lib.hid (show Bx W0 (w.heap.size + 1 + 1) 41 [.int .i64 0, .int .i64 0] by rw [← hW0]; exact hX2)
  rw [hW0] at hb0
  have HB0 := Lib.hid hb0
  have HC := Lib.hid (h.below hb0)
  have hpz : (p : Int) < (n : Int) := by omega
  obtain ⟨bA, off, K, cK, rfl, xt, x0, x1, x2, x3, x4, xI⟩ := Ty.node_at (h.below hb0).tt.nds (Below.refl _ _) p hpl
  rw [hq] at x0 x1 x2 x3 x4
  have HTY := Lib.hid (fun W (q : Below W0.heap.size W0 W) => Ty.type_any (HC.out.below q).tt c r (p : Int))
  obtain ⟨kd, nn, pl, tx, ks⟩ := q
  dsimp only at x0 x1 x2 x3 x4 hk
  have a0 := (HX0.out.cell 0).trans rfl
  clear hX0 hX1 hX2 hb0 hm xI h
  go_enter Try.func65, Try.ntmps65
  go_upto_region 5 with (fail)
  have hX3 := (Bx.new W0 55 [.int .i64 kd, .int .i64 nn, .int .i64 pl, .string tx, .slice K ks.length cK]).alloc (.cells #[.int .i64 0, .int .i64 0] 41)
  have hX4 := Bx.new (W0.alloc (.cells #[.int .i64 kd, .int .i64 nn, .int .i64 pl, .string tx, .slice K ks.length cK] 55)) 41 [.int .i64 0, .int .i64 0]
  simp only [World.size_alloc] at hX4
  have hb1 : Below W0.heap.size W0 ((W0.alloc (.cells #[.int .i64 kd, .int .i64 nn, .int .i64 pl, .string tx, .slice K ks.length cK] 55)).alloc (.cells #[.int .i64 0, .int .i64 0] 41)) := (heap1 _ _).alloc (by simp only [World.size_alloc]; omega) _
  obtain ⟨W1, hW1⟩ : ∃ W1, ((W0.alloc (.cells #[.int .i64 kd, .int .i64 nn, .int .i64 pl, .string tx, .slice K ks.length cK] 55)).alloc (.cells #[.int .i64 0, .int .i64 0] 41)) = W1 := ⟨_, rfl⟩
  have HX3 := Lib.hid (show Bx W1 W0.heap.size 55 [.int .i64 kd, .int .i64 nn, .int .i64 pl, .string tx, .slice K ks.length cK] by rw [← hW1]; exact hX3)
  have HX4 := Lib.hid (show Bx W1 (W0.heap.size + 1) 41 [.int .i64 0, .int .i64 0] by rw [← hW1]; exact hX4)
  rw [hW1] at hb1 ⊢
  have HB1 := Lib.hid hb1
  have HX0a := Lib.hid (HX0.out.below hb1 HX0.out.lt)
  have HX1a := Lib.hid (HX1.out.below hb1 HX1.out.lt)
  have HX2a := Lib.hid (HX2.out.below hb1 HX2.out.lt)
  have HSZ := Lib.hid (show w.heap.size + 1 + 1 < W0.heap.size from HX2.out.lt)
  have HZ1 := Lib.hid (show W0.heap.size ≤ W1.heap.size from hb1.size)
  generalize W0.heap.size = z0 at *
  clear hX3 hX4 hb1 a0 x0 x1 x2 x3 x4 hW1
  have n0 := (HX3.out.cell 0).trans rfl
  have n3 := (HX3.out.cell 3).trans rfl
  have o0 := (HX1a.out.cell 0).trans rfl
  have o1 := (HX1a.out.cell 1).trans rfl
  have o2 := (HX1a.out.cell 2).trans rfl
  have o3 := (HX1a.out.cell 3).trans rfl
  by_cases h26 : kd = 26
  · subst h26
    have HU := Lib.hid (Va.unary_any tx k1 n1 W1)
    obtain ⟨⟨⟨u1, u2⟩, ok⟩, hu⟩ : ∃ R, unR tx k1 n1 = R := ⟨_, rfl⟩
    have HO := Lib.hid (show opV l r p ⟨26, nn, pl, tx, ks⟩ k1 n1 k2 n2 = if ok = true then ((u1, u2), 0) else ((tpT l r (p : Int), 0), 0) by unfold opV; rw [if_pos rfl, hu])
    rw [hu] at HU
    dsimp only at HU
    clear hu hk
    go_wp2_with (go_at_call 71; refine HU.out.mono ?_)
    rintro e w3 ⟨rfl, hb3⟩
    have hX4 := HX4.out.below hb3 HX4.out.lt
    have s0 := (hX4.cell 0).trans rfl
    have s1 := (hX4.cell 1).trans rfl
    have g0 := hX4.frozen 0
    have g1 := hX4.frozen 1
    go_upto_region 8 with (fail)
    have hX4b := (hX4.set_ 0 (.int .i64 u1)).set_ 1 (.int .i64 u2)
    have hX0b := ((HX0a.out.below hb3 HX0a.out.lt).far (p := ⟨z0 + 1, 0, none⟩) (by have := HSZ.out; show w.heap.size ≠ z0 + 1; omega) (.int .i64 u1)).far (p := ⟨z0 + 1, 1, none⟩) (by have := HSZ.out; show w.heap.size ≠ z0 + 1; omega) (.int .i64 u2)
    have hX2b := ((HX2a.out.below hb3 HX2a.out.lt).far (p := ⟨z0 + 1, 0, none⟩) (by have := HSZ.out; show w.heap.size + 1 + 1 ≠ z0 + 1; omega) (.int .i64 u1)).far (p := ⟨z0 + 1, 1, none⟩) (by have := HSZ.out; show w.heap.size + 1 + 1 ≠ z0 + 1; omega) (.int .i64 u2)
    have hbb : Below z0 W0 ((w3.setCell ⟨z0 + 1, 0, none⟩ (.int .i64 u1)).setCell ⟨z0 + 1, 1, none⟩ (.int .i64 u2)) := ((HB1.out.trans (hb3.mono HZ1.out)).setCell (p := ⟨z0 + 1, 0, none⟩) (by show z0 ≤ z0 + 1; omega) _).setCell (p := ⟨z0 + 1, 1, none⟩) (by show z0 ≤ z0 + 1; omega) _
    generalize (w3.setCell ⟨z0 + 1, 0, none⟩ (.int .i64 u1)).setCell ⟨z0 + 1, 1, none⟩ (.int .i64 u2) = W2 at *
    have HZ := Lib.hid (show Below w.heap.size w W2 from HB0.out.trans (hbb.mono (by have := HSZ.out; omega)))
    have HBB := Lib.hid hbb
    have HX2b := Lib.hid hX2b
    have HX4b := Lib.hid hX4b
    have HX0b := Lib.hid hX0b
    clear hX4 s0 s1 g0 g1 hX4b hX0b hX2b hbb hb3 n0 n3 o0 o1 o2 o3
    cases ok with
    | true =>
      rw [if_pos rfl] at HO
      have s0 := (HX4b.out.cell 0).trans rfl
      have s1 := (HX4b.out.cell 1).trans rfl
      have t0 := (HX2b.out.cell 0).trans rfl
      have t1 := (HX2b.out.cell 1).trans rfl
      have g0 := HX2b.out.frozen 0
      have g1 := HX2b.out.frozen 1
      go_wp2
      have z := (HX2b.out.set_ 0 (.int .i64 u1)).set_ 1 (.int .i64 u2)
      have c0 := (z.cell 0).trans rfl
      have c1 := (z.cell 1).trans rfl
      exact bodyPost_ret (v := .tuple #[.agg #[.int .i64 u1, .int .i64 u2], .int .i64 0]) (by simp [results, Try.results65, go_sem, c0, c1]) rfl (by rw [HO.out]; exact ⟨rfl, below2 HZ.out (by omega)⟩)
    | false =>
      rw [if_neg (by decide)] at HO
      have a0 := (HX0b.out.cell 0).trans rfl
      have a1 := (HX0b.out.cell 1).trans rfl
      have HTY' := Lib.hid (HTY.out W2 HBB.out)
      obtain ⟨ty, hty⟩ : ∃ ty, tpT l r (p : Int) = ty := ⟨_, rfl⟩
      rw [hty] at HTY' HO
      have HZE := Lib.hid (fun W => Va.zerob ty W)
      clear hty
      go_wp2_with (first | (go_at_call 8; refine HTY'.out.mono ?_) | (go_at_call 15; refine (HZE.out _).mono ?_))
      rintro e w4 ⟨rfl, hb4⟩
      go_wp2_with (first | (go_at_call 8; refine HTY'.out.mono ?_) | (go_at_call 15; refine (HZE.out _).mono ?_))
      rintro e w5 ⟨rfl, hb5⟩
      have h45 := bt hb4 hb5
      have hX2c := HX2b.out.below h45 HX2b.out.lt
      have t0 := (hX2c.cell 0).trans rfl
      have t1 := (hX2c.cell 1).trans rfl
      have g0 := hX2c.frozen 0
      have g1 := hX2c.frozen 1
      go_wp2
      have z := (hX2c.set_ 0 (.int .i64 ty)).set_ 1 (.int .i64 0)
      have c0 := (z.cell 0).trans rfl
      have c1 := (z.cell 1).trans rfl
      exact bodyPost_ret (v := .tuple #[.agg #[.int .i64 ty, .int .i64 0], .int .i64 0]) (by simp [results, Try.results65, go_sem, c0, c1]) rfl (by rw [HO.out]; exact ⟨rfl, below2 (bt HZ.out h45) (by omega)⟩)
  · have hk27 : kd = 27 := hk.resolve_left h26
    subst hk27
    have HU := Lib.hid (Va.binary_any tx k1 n1 k2 n2 W1)
    obtain ⟨⟨⟨u1, u2⟩, e0, ok⟩, hu⟩ : ∃ R, binR tx k1 n1 k2 n2 = R := ⟨_, rfl⟩
    have HO := Lib.hid (show opV l r p ⟨27, nn, pl, tx, ks⟩ k1 n1 k2 n2 = if ok = true then ((u1, u2), e0) else ((tpT l r (p : Int), 0), 0) by unfold opV; rw [if_neg (by decide : ¬ (27 : Int) = 26), hu])
    rw [hu] at HU
    dsimp only at HU
    clear hu hk h26
    go_wp2_with (go_at_call 11; refine HU.out.mono ?_)
    rintro e w3 ⟨rfl, hb3⟩
    have hX4 := HX4.out.below hb3 HX4.out.lt
    have s0 := (hX4.cell 0).trans rfl
    have s1 := (hX4.cell 1).trans rfl
    have g0 := hX4.frozen 0
    have g1 := hX4.frozen 1
    go_upto_region 8 with (fail)
    have hX4b := (hX4.set_ 0 (.int .i64 u1)).set_ 1 (.int .i64 u2)
    have hX0b := ((HX0a.out.below hb3 HX0a.out.lt).far (p := ⟨z0 + 1, 0, none⟩) (by have := HSZ.out; show w.heap.size ≠ z0 + 1; omega) (.int .i64 u1)).far (p := ⟨z0 + 1, 1, none⟩) (by have := HSZ.out; show w.heap.size ≠ z0 + 1; omega) (.int .i64 u2)
    have hX2b := ((HX2a.out.below hb3 HX2a.out.lt).far (p := ⟨z0 + 1, 0, none⟩) (by have := HSZ.out; show w.heap.size + 1 + 1 ≠ z0 + 1; omega) (.int .i64 u1)).far (p := ⟨z0 + 1, 1, none⟩) (by have := HSZ.out; show w.heap.size + 1 + 1 ≠ z0 + 1; omega) (.int .i64 u2)
    have hbb : Below z0 W0 ((w3.setCell ⟨z0 + 1, 0, none⟩ (.int .i64 u1)).setCell ⟨z0 + 1, 1, none⟩ (.int .i64 u2)) := ((HB1.out.trans (hb3.mono HZ1.out)).setCell (p := ⟨z0 + 1, 0, none⟩) (by show z0 ≤ z0 + 1; omega) _).setCell (p := ⟨z0 + 1, 1, none⟩) (by show z0 ≤ z0 + 1; omega) _
    generalize (w3.setCell ⟨z0 + 1, 0, none⟩ (.int .i64 u1)).setCell ⟨z0 + 1, 1, none⟩ (.int .i64 u2) = W2 at *
    have HZ := Lib.hid (show Below w.heap.size w W2 from HB0.out.trans (hbb.mono (by have := HSZ.out; omega)))
    have HBB := Lib.hid hbb
    have HX2b := Lib.hid hX2b
    have HX4b := Lib.hid hX4b
    have HX0b := Lib.hid hX0b
    clear hX4 s0 s1 g0 g1 hX4b hX0b hX2b hbb hb3 n0 n3 o0 o1 o2 o3
    cases ok with
    | true =>
      rw [if_pos rfl] at HO
      have s0 := (HX4b.out.cell 0).trans rfl
      have s1 := (HX4b.out.cell 1).trans rfl
      have t0 := (HX2b.out.cell 0).trans rfl
      have t1 := (HX2b.out.cell 1).trans rfl
      have g0 := HX2b.out.frozen 0
      have g1 := HX2b.out.frozen 1
      go_wp2
      have z := (HX2b.out.set_ 0 (.int .i64 u1)).set_ 1 (.int .i64 u2)
      have c0 := (z.cell 0).trans rfl
      have c1 := (z.cell 1).trans rfl
      exact bodyPost_ret (v := .tuple #[.agg #[.int .i64 u1, .int .i64 u2], .int .i64 e0]) (by simp [results, Try.results65, go_sem, c0, c1]) rfl (by rw [HO.out]; exact ⟨rfl, below2 HZ.out (by omega)⟩)
    | false =>
      rw [if_neg (by decide)] at HO
      have a0 := (HX0b.out.cell 0).trans rfl
      have a1 := (HX0b.out.cell 1).trans rfl
      have HTY' := Lib.hid (HTY.out W2 HBB.out)
      obtain ⟨ty, hty⟩ : ∃ ty, tpT l r (p : Int) = ty := ⟨_, rfl⟩
      rw [hty] at HTY' HO
      have HZE := Lib.hid (fun W => Va.zerob ty W)
      clear hty
      go_wp2_with (first | (go_at_call 8; refine HTY'.out.mono ?_) | (go_at_call 15; refine (HZE.out _).mono ?_))
      rintro e w4 ⟨rfl, hb4⟩
      go_wp2_with (first | (go_at_call 8; refine HTY'.out.mono ?_) | (go_at_call 15; refine (HZE.out _).mono ?_))
      rintro e w5 ⟨rfl, hb5⟩
      have h45 := bt hb4 hb5
      have hX2c := HX2b.out.below h45 HX2b.out.lt
      have t0 := (hX2c.cell 0).trans rfl
      have t1 := (hX2c.cell 1).trans rfl
      have g0 := hX2c.frozen 0
      have g1 := hX2c.frozen 1
      go_wp2
      have z := (hX2c.set_ 0 (.int .i64 ty)).set_ 1 (.int .i64 0)
      have c0 := (z.cell 0).trans rfl
      have c1 := (z.cell 1).trans rfl
      exact bodyPost_ret (v := .tuple #[.agg #[.int .i64 ty, .int .i64 0], .int .i64 0]) (by simp [results, Try.results65, go_sem, c0, c1]) rfl (by rw [HO.out]; exact ⟨rfl, below2 (bt HZ.out h45) (by omega)⟩)
end
end Go.Proofs.Ytignojhijmamhaa
namespace Go.Proofs.Ytignojhijmamhaa
open Go Go.RowKit Go.Sort
open Va (h_one Bx ap hpu)
def Own (F : Nat) : Prop := ∃ fn, Try.prog.funcs[F]? = some fn ∧ (fn.name == "runtime.NumGoroutine") = false ∧ fn.body.isNone = false
theorem run_own {F : Nat} (h : Own F) (args : Array Value) (w : World) : (callFunc F args).run Try.prog w = .ok (.enter F args) w := by
  obtain ⟨fn, h1, h2, h3⟩ := h
  simp only [callFunc, Sem.run_bind, run_program, Result.andThen_ok, h1, h2, h3, Bool.false_eq_true, if_false, Sem.run_pure]
theorem own66 : Own 62 := ⟨_, Try.func62, by kernel_rfl, by kernel_rfl⟩
theorem own14 : Own 14 := ⟨_, Try.func14, by kernel_rfl, by kernel_rfl⟩
theorem own67 : Own 63 := ⟨_, Try.func63, by kernel_rfl, by kernel_rfl⟩
theorem own31 : Own 31 := ⟨_, Try.func31, by kernel_rfl, by kernel_rfl⟩
section
variable {ops : Array Oper} {Q : Exit → Act → World → Prop} {S : World → Prop} {fuel : Nat} {listed : Array Bool} {a : Act} {w : World}
theorem h_call (i : Nat) (o : Oper) {F : Nat} {t : Tmp} {xs : Array Operand} {ts : Array TypeId} {args : Array Value} (R : Value → World → Prop) (hF : Own F) (ho : o.op = .call { callee := .value (.func F), args := xs, argTypes := ts }) (hd : o.dst = some t) (hi : ops[i]? = some o) (hr : Region.ready .any ops listed = [i])
    (hw : Region.wanted o (yielded ops a.tmps) = true) (ha' : (xs.toList.map a.eval).toArray = args) (hc : Calls Try.prog F args w fun e w' => ∃ v, e = .returned v ∧ R v w')
    (h : ∀ v w', R v w' → S w' ∧ wpAnyH Try.prog .any ops Q S fuel (listed.setIfInBounds i true) (a.put (some t) v) w') : wpAnyH Try.prog .any ops Q S (fuel + 1) listed a w :=
  h_one i o hi hr hw (by
    have ha : xs.map a.eval = args := by rw [← ha']; exact Array.ext' (by rw [Array.toList_map])
    unfold Oper.wp execOp
    have e : a.eval (.func F) = .func (.func F) #[] #[] := rfl
    have e2 : (#[] ++ args : Array Value) ++ #[] = args := by simp
    simp only [ho, resolve, e, ha, Deferred.ofValue, invoke, Sem.run_bind, Sem.run_pure, Result.andThen_ok]
    rw [e2, run_own hF]
    exact hc.mono fun e w' ⟨v, he, hR⟩ => by subst he; rw [hd]; exact h v w' hR)
theorem h_oneK (i : Nat) (o : Oper) (hi : ops[i]? = some o) (hr : Region.ready .any ops listed = [i]) (hw : Region.wanted o (yielded ops a.tmps) = true)
    (h : ∀ K' : Act → World → Prop, Shut (∀ a w, S w → (S w → wpAnyH Try.prog .any ops Q S fuel (listed.setIfInBounds i true) a w) → K' a w) → o.wp Try.prog a w K' Q) : wpAnyH Try.prog .any ops Q S (fuel + 1) listed a w :=
  h_one i o hi hr hw (h _ fun _ _ hS hW => ⟨hS, hW hS⟩)
end
end Go.Proofs.Ytignojhijmamhaa
