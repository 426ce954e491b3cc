/- PROVED here: the contract of follow: a refusal is caught. No condition but those in each theorem's own head. -/
import Derived.Test.YtdoeinjplgeadaaGreatDoorQg
import Derived.Recover
import Derived.Tactics2
import Derived.Laws.Pointers
namespace Go.Proofs.YtdoeinjplgeadaaGreatDoor
open Go Go.RowKit
open Tr (Bx heap1 bt gen_world ret_int ret_bool cell_same)

theorem pn_far {X : Nat → Prop} {w : World} {base g c : Nat} {A : Option Addr} {ts : List Tok} {V : Value} {s : St} {b : Nat} {t : TypeId} {l : List Value} (hp : Px w g A c ts V s) (hn : Nodes w X base V s.nd) (hA : ∀ a, A = some a → a.block < base) (hB : Bx w b t l) (ht : t ≠ 3) (hg : b ≠ g) (hV : V.ownBlock ≠ some b) (hbb : base ≤ b) (i : Nat) (v : Value) : Px (w.setCell ⟨b, i, none⟩ v) g A c ts V s ∧ Nodes (w.setCell ⟨b, i, none⟩ v) X base V s.nd := by
  have hfr : Fr (fun k => k = b) w (w.setCell ⟨b, i, none⟩ v) := Fr.set (E := fun k => k = b) (Fr.refl _ _) rfl _
  refine ⟨⟨hp.box.far (p := ⟨b, i, none⟩) (Ne.symm hg) v, hp.toks.fr hfr (fun a ha e => by have := hA a ha; omega), hp.len, hp.nx, hp.op, hp.mo, hp.ne⟩, ?_⟩
  obtain ⟨xs, h1, h2⟩ := hn
  refine ⟨xs, ⟨h1.1, h1.2.imp id ?_⟩, fun j hj => ?_⟩
  · rintro ⟨k, cap, cur, q1, q2, q3, q4⟩
    exact ⟨k, cap, cur, q1, q2, (hfr.block k (Array.getElem?_eq_some_iff.1 q3).1 (fun e => hV (by rw [q1, ← e]; rfl))).trans q3, q4⟩
  · obtain ⟨K, c, e, hk⟩ := h2 j hj
    refine ⟨K, c, e, hk.fr hfr (fun k cs hb e => ?_)⟩
    subst e
    have := hb.symm.trans hB
    simp at this
    exact ht this.2.symm
theorem run_assert49 (p er : Int) (w : World) : (Instr.typeAssert (.iface 49 (.agg #[.int .i64 p, .int .i64 er])) 20 49 false).run Tryz.prog w = .ok (.agg #[.int .i64 p, .int .i64 er]) w := by kernel_rfl
set_option maxRecDepth 100000 in
theorem catch_no (b : Nat) (p : Nat) (er : Int) (older : List PanicEntry) (w : World) (hB : Bx w b 49 [.int .i64 0, .int .i64 0]) :
    CallsD Tryz.prog 68 #[.pointer (some ⟨b, 0, none⟩)] (.panicking ({ v := refV p er, recovered := false } :: older)) w fun e u' w' =>
      e = .returned (.tuple #[]) ∧ u' = .panicking ({ v := refV p er, recovered := true } :: older) ∧ w' = (w.setCell ⟨b, 0, none⟩ (.int .i64 (p : Int))).setCell ⟨b, 1, none⟩ (.int .i64 er) := by
  have c0 := (hB.cell 0).trans rfl
  have c1 := (hB.cell 1).trans rfl
  have f0 := hB.frozen 0
  have f1 := hB.frozen 1
  refine callsD_of_wpS Tryz.func68 rfl fun c₀ cs hu => ?_
  apply wpS_seq
  apply wpS_region
  simp [wpOpsS, go_sem, recoverD, hu, Tryz.ntmps68, Exit.thenS, refV]
  apply wpS_seq
  apply wpS_region
  simp [wpOpsS, go_sem, Exit.thenS]
  refine wpS_cond (t := true) (by simp [Act.eval, Array.replicate]) ?_
  simp only [if_true]
  apply wpS_region
  simp [wpOpsS, go_sem, run_assert49, c0, c1, f0, f1, bodyPostS, results, Tryz.results68]
set_option maxRecDepth 100000 in
theorem catch_idle (b : Nat) (w : World) :
    CallsD Tryz.prog 68 #[.pointer (some ⟨b, 0, none⟩)] .returning w fun e u' w' => e = .returned (.tuple #[]) ∧ u' = .returning ∧ w' = w := by
  refine callsD_of_wpS Tryz.func68 rfl fun c₀ cs hu => ?_
  apply wpS_seq
  apply wpS_region
  simp [wpOpsS, go_sem, recoverD, hu, Tryz.ntmps68, Exit.thenS]
  apply wpS_seq
  apply wpS_region
  simp [wpOpsS, go_sem, Exit.thenS]
  refine wpS_cond (t := false) (by simp [Act.eval, Array.replicate]) ?_
  simp only [Bool.false_eq_true, if_false]
  refine wpS_of_wp (wp_skip ?_)
  cases c₀
  simp_all [bodyPostS, results, Tryz.results68]

/-- what follow comes to: a refusal, as data; or the parser behind the row -/
def FPost (X : Nat → Prop) (base g : Nat) (A : Option Addr) (c : Nat) (ts : List Tok) (V : Value) (w : World) (R : Rs) (e : Ending) (w' : World) : Prop :=
  (∃ p er, R = .no p er ∧ e = .returned (.agg #[.int .i64 (p : Int), .int .i64 (er : Int)]) ∧ Fr (PE g V) w w') ∨ ∃ l s' V', R = .ok l s' ∧ e = .returned (.agg #[.int .i64 0, .int .i64 0]) ∧ Px w' g A c ts V' s' ∧ Nodes w' X base V' s'.nd ∧ Fo w w' g V V'
set_option maxRecDepth 100000 in
set_option maxHeartbeats 1500000 in
theorem follow22 {X : Nat → Prop} {w : World} {base g c : Nat} {A : Option Addr} {ts : List Tok} {V : Value} {s : St} {f : Nat} (h : Pz X w base g A c ts V s) (hne : programM ts (run ts f) s ≠ .out) : Calls Tryz.prog 38 #[.pointer (some ⟨g, 0, none⟩), .func (.func 22) #[] #[]] w (FPost X base g A c ts V w (programM ts (run ts f) s)) := by
  have hmf : ∀ (fn : Fn) (first cap : Array Value) (w : World), (Instr.makeFunc fn first cap).run Tryz.prog w = .ok (.func fn first cap) w := fun _ _ _ _ => rfl
  have HU := Lib.hid (program_z (f := f) (h.below (heap1 w (.cells #[.int .i64 0, .int .i64 0] 49))) hne)
  have HB := Lib.hid (fun w1 V1 (k : Fo (w.alloc (.cells #[.int .i64 0, .int .i64 0] 49)) w1 g V V1) => h.box (l := [.int .i64 0, .int .i64 0]) k)
  have HN := Lib.hid (And.intro h.new.1 (And.intro h.hb h.hA))
  generalize programM ts (run ts f) s = R at *
  clear h hne
  go_enter_defers Tryz.func38, Tryz.ntmps38
  go_wp2_with (go_at_call 22; refine HU.out.mono ?_)
  rintro e w1 (⟨p, er, hr, rfl, hF⟩ | ⟨l, s1, V1, hr, rfl, hx1, hn1, hF1⟩) <;> replace hr := Lib.hid hr
  · go_wp2
    have hB := (HB.out w1 V ⟨hF, fun _ q => .inl q⟩).1
    refine leaves_cons (f := 68) (args := #[.pointer (some ⟨w.heap.size, 0, none⟩)]) (by simp) (by simp [go_sem]) ?_
    refine (catch_no w.heap.size p (er : Int) [] w1 hB).mono ?_
    rintro e u' w'' ⟨rfl, rfl, rfl⟩
    have hE := (hB.set_ 0 (.int .i64 (p : Int))).set_ 1 (.int .i64 (er : Int))
    simp only [List.set_cons_zero, List.set_cons_succ] at hE
    have z0 := (hE.cell 0).trans rfl
    have z1 := (hE.cell 1).trans rfl
    have hFF : Fo w ((w1.setCell ⟨w.heap.size, 0, none⟩ (.int .i64 (p : Int))).setCell ⟨w.heap.size, 1, none⟩ (.int .i64 (er : Int))) g V V := (((Fo.below (heap1 w _)).trans ⟨hF, fun _ q => .inl q⟩).new (Nat.le_refl _) 0 _).new (Nat.le_refl _) 1 _
    generalize (w1.setCell ⟨w.heap.size, 0, none⟩ (.int .i64 (p : Int))).setCell ⟨w.heap.size, 1, none⟩ (.int .i64 (er : Int)) = W9 at *
    simp [Leaves, settle, results, Tryz.results38, go_sem, z0, z1]
    exact .inl ⟨p, er, hr.out, rfl, hFF.fr⟩
  · have hB := HB.out w1 V1 hF1
    have c0 := (hB.1.cell 0).trans rfl
    have c1 := (hB.1.cell 1).trans rfl
    have f0 := hB.1.frozen 0
    have f1 := hB.1.frozen 1
    have hfar := pn_far hx1 hn1 HN.out.2.2 hB.1 (by decide) HN.out.1 hB.2 HN.out.2.1 0 (.int .i64 0)
    have hB2 := hB.1.set_ 0 (.int .i64 0)
    simp only [List.set_cons_zero] at hB2
    have hfar2 := pn_far hfar.1 hfar.2 HN.out.2.2 hB2 (by decide) HN.out.1 hB.2 HN.out.2.1 1 (.int .i64 0)
    have hB3 := hB2.set_ 1 (.int .i64 0)
    simp only [List.set_cons_zero, List.set_cons_succ] at hB3
    have hFF := (((Fo.below (V := V) (heap1 w (.cells #[.int .i64 0, .int .i64 0] 49))).trans hF1).new (Nat.le_refl _) 0 (.int .i64 0)).new (Nat.le_refl _) 1 (.int .i64 0)
    obtain ⟨W9, hW9⟩ : ∃ W9, (w1.setCell ⟨w.heap.size, 0, none⟩ (.int .i64 0)).setCell ⟨w.heap.size, 1, none⟩ (.int .i64 0) = W9 := ⟨_, rfl⟩
    rw [hW9] at hfar2 hB3 hFF
    have z0 := (hB3.cell 0).trans rfl
    have z1 := (hB3.cell 1).trans rfl
    have HX := Lib.hid (And.intro hfar2 hFF)
    clear hx1 hn1 hF1 hfar hfar2 hB hB2 hB3 hFF
    go_wp2
    refine leaves_cons (f := 68) (args := #[.pointer (some ⟨w.heap.size, 0, none⟩)]) (by simp) (by simp [go_sem]) ?_
    refine (catch_idle w.heap.size _).mono ?_
    rintro e u' w'' ⟨rfl, rfl, rfl⟩
    simp [Leaves, settle, results, Tryz.results38, go_sem, z0, z1]
    exact .inr ⟨l, s1, V1, hr.out, rfl, HX.out.1.1, HX.out.1.2, HX.out.2⟩
set_option maxRecDepth 100000 in
set_option maxHeartbeats 1500000 in
theorem follow35 {X : Nat → Prop} {w : World} {base g c : Nat} {A : Option Addr} {ts : List Tok} {V : Value} {s : St} {f : Nat} (h : Pz X w base g A c ts V s) (hne : onlyM ts (run ts f) s ≠ .out) : Calls Tryz.prog 38 #[.pointer (some ⟨g, 0, none⟩), .func (.func 35) #[] #[]] w (FPost X base g A c ts V w (onlyM ts (run ts f) s)) := by
  have hmf : ∀ (fn : Fn) (first cap : Array Value) (w : World), (Instr.makeFunc fn first cap).run Tryz.prog w = .ok (.func fn first cap) w := fun _ _ _ _ => rfl
  have HU := Lib.hid (only_z (f := f) (h.below (heap1 w (.cells #[.int .i64 0, .int .i64 0] 49))) hne)
  have HB := Lib.hid (fun w1 V1 (k : Fo (w.alloc (.cells #[.int .i64 0, .int .i64 0] 49)) w1 g V V1) => h.box (l := [.int .i64 0, .int .i64 0]) k)
  have HN := Lib.hid (And.intro h.new.1 (And.intro h.hb h.hA))
  generalize onlyM ts (run ts f) s = R at *
  clear h hne
  go_enter_defers Tryz.func38, Tryz.ntmps38
  go_wp2_with (go_at_call 35; refine HU.out.mono ?_)
  rintro e w1 (⟨p, er, hr, rfl, hF⟩ | ⟨l, s1, V1, hr, rfl, hx1, hn1, hF1⟩) <;> replace hr := Lib.hid hr
  · go_wp2
    have hB := (HB.out w1 V ⟨hF, fun _ q => .inl q⟩).1
    refine leaves_cons (f := 68) (args := #[.pointer (some ⟨w.heap.size, 0, none⟩)]) (by simp) (by simp [go_sem]) ?_
    refine (catch_no w.heap.size p (er : Int) [] w1 hB).mono ?_
    rintro e u' w'' ⟨rfl, rfl, rfl⟩
    have hE := (hB.set_ 0 (.int .i64 (p : Int))).set_ 1 (.int .i64 (er : Int))
    simp only [List.set_cons_zero, List.set_cons_succ] at hE
    have z0 := (hE.cell 0).trans rfl
    have z1 := (hE.cell 1).trans rfl
    have hFF : Fo w ((w1.setCell ⟨w.heap.size, 0, none⟩ (.int .i64 (p : Int))).setCell ⟨w.heap.size, 1, none⟩ (.int .i64 (er : Int))) g V V := (((Fo.below (heap1 w _)).trans ⟨hF, fun _ q => .inl q⟩).new (Nat.le_refl _) 0 _).new (Nat.le_refl _) 1 _
    generalize (w1.setCell ⟨w.heap.size, 0, none⟩ (.int .i64 (p : Int))).setCell ⟨w.heap.size, 1, none⟩ (.int .i64 (er : Int)) = W9 at *
    simp [Leaves, settle, results, Tryz.results38, go_sem, z0, z1]
    exact .inl ⟨p, er, hr.out, rfl, hFF.fr⟩
  · have hB := HB.out w1 V1 hF1
    have c0 := (hB.1.cell 0).trans rfl
    have c1 := (hB.1.cell 1).trans rfl
    have f0 := hB.1.frozen 0
    have f1 := hB.1.frozen 1
    have hfar := pn_far hx1 hn1 HN.out.2.2 hB.1 (by decide) HN.out.1 hB.2 HN.out.2.1 0 (.int .i64 0)
    have hB2 := hB.1.set_ 0 (.int .i64 0)
    simp only [List.set_cons_zero] at hB2
    have hfar2 := pn_far hfar.1 hfar.2 HN.out.2.2 hB2 (by decide) HN.out.1 hB.2 HN.out.2.1 1 (.int .i64 0)
    have hB3 := hB2.set_ 1 (.int .i64 0)
    simp only [List.set_cons_zero, List.set_cons_succ] at hB3
    have hFF := (((Fo.below (V := V) (heap1 w (.cells #[.int .i64 0, .int .i64 0] 49))).trans hF1).new (Nat.le_refl _) 0 (.int .i64 0)).new (Nat.le_refl _) 1 (.int .i64 0)
    obtain ⟨W9, hW9⟩ : ∃ W9, (w1.setCell ⟨w.heap.size, 0, none⟩ (.int .i64 0)).setCell ⟨w.heap.size, 1, none⟩ (.int .i64 0) = W9 := ⟨_, rfl⟩
    rw [hW9] at hfar2 hB3 hFF
    have z0 := (hB3.cell 0).trans rfl
    have z1 := (hB3.cell 1).trans rfl
    have HX := Lib.hid (And.intro hfar2 hFF)
    clear hx1 hn1 hF1 hfar hfar2 hB hB2 hB3 hFF
    go_wp2
    refine leaves_cons (f := 68) (args := #[.pointer (some ⟨w.heap.size, 0, none⟩)]) (by simp) (by simp [go_sem]) ?_
    refine (catch_idle w.heap.size _).mono ?_
    rintro e u' w'' ⟨rfl, rfl, rfl⟩
    simp [Leaves, settle, results, Tryz.results38, go_sem, z0, z1]
    exact .inr ⟨l, s1, V1, hr.out, rfl, HX.out.1.1, HX.out.1.2, HX.out.2⟩
end Go.Proofs.YtdoeinjplgeadaaGreatDoor
