/- PROVED here: parts VaV Ea Eb of the claim. No condition but those in each theorem's own head. -/
import Derived.Test.YtignojhijmamhaaK37
import Derived.Test.YtignojhijmamhaaRows
import Derived.WalkKit
import Derived.ProofKit
import Derived.OpenShut
import Derived.Carry
import Derived.Deep.Strs
import Derived.Deep.Slices
import Derived.ChangeMaps5
import Derived.Test.YtignojhijmamhaaK36
namespace Go.Proofs.Ytignojhijmamhaa.Va
open Go Go.ChangeShapes Go.WideShapes Go.ChangeAt Go.RowKit Go.Deep
set_option maxRecDepth 100000
theorem ownK : ownKnob Try.prog.godebug = none := by kernel_rfl
theorem laidOut : laidOutB Try.prog = true := by kernel_rfl
theorem lit4 : Try.prog.underlying 4 = some .bool := by kernel_rfl
theorem cells3 : Try.prog.cellsOf 3 = 1 := by kernel_rfl
theorem cells23 : Try.prog.cellsOf 41 = 2 := by kernel_rfl
theorem pick_lt {α : Type} {P : Nat → α → Prop} {m : Nat} (d : α) (h : ∀ i, i < m → ∃ q, P i q) : ∃ Q : Nat → α, ∀ i, i < m → P i (Q i) :=
  ⟨fun i => if hi : i < m then (h i hi).choose else d, fun i hi => by
    show P i (dite (i < m) _ _)
    rw [dif_pos hi]
    exact (h i hi).choose_spec⟩
theorem field_of {T : TypeId} {L : List (String × Nat × Nat)} (hL : (Try.prog.fieldsOf T).toList.map (fun f => (f.name, f.type, f.offset)) = L) {i : Nat} {n : String} {t o : Nat} (h : L[i]? = some (n, t, o)) : ∃ f, (Try.prog.fieldsOf T)[i]? = some f ∧ f.type = t ∧ f.offset = o := by
  rw [← hL, List.getElem?_map] at h
  cases hq : (Try.prog.fieldsOf T).toList[i]? with
  | none => rw [hq] at h; cases h
  | some f =>
    rw [hq] at h
    simp only [Option.map_some, Option.some.injEq, Prod.mk.injEq] at h
    exact ⟨f, by rw [← Array.getElem?_toList]; exact hq, h.2.1, h.2.2⟩
theorem add_flat (b off k : Nat) : (⟨b, off, none⟩ : Addr).add k = ⟨b, off + k, none⟩ := by simp [Addr.add]
end Go.Proofs.Ytignojhijmamhaa.Va
namespace Go.Proofs.Ytignojhijmamhaa
open Go Go.RowKit Go.Sort
open Va (Bx heap1 bt VP str_eq str_ne)
structure NV where
  tx : ByteArray
  k : Int
  n : Int
def named : List NV → ByteArray → Int × Int
  | [], _ => (0, 0)
  | x :: r, s => if x.tx = s then (x.k, x.n) else named r s
theorem named_step {ns : List NV} {i : Nat} (h : i < ns.length) (s : ByteArray) : named (ns.drop i) s = if ns[i].tx = s then (ns[i].k, ns[i].n) else named (ns.drop (i + 1)) s := by
  rw [List.drop_eq_getElem_cons h]; rfl
theorem named_end {ns : List NV} {i : Nat} (h : ns.length ≤ i) (s : ByteArray) : named (ns.drop i) s = (0, 0) := by rw [List.drop_eq_nil_of_le h]; rfl
def Nms (w : World) (A : Option Addr) (ns : List NV) : Prop := 0 < ns.length → ∃ b off, A = some ⟨b, off, none⟩ ∧ b < w.heap.size ∧ ∀ j (hj : j < ns.length), w.cell? ⟨b, off + j * 3, none⟩ = some (.string ns[j].tx) ∧ w.cell? ⟨b, off + j * 3 + 1, none⟩ = some (.int .i64 ns[j].k) ∧ w.cell? ⟨b, off + j * 3 + 2, none⟩ = some (.int .i64 ns[j].n)
theorem Nms.below {w w' : World} {A : Option Addr} {ns : List NV} (h : Nms w A ns) (hb : Below w.heap.size w w') : Nms w' A ns := fun h0 => by
  obtain ⟨b, off, e, hl, hc⟩ := h h0
  exact ⟨b, off, e, Nat.lt_of_lt_of_le hl hb.size, fun j hj => ⟨(hb.cell (p := ⟨b, off + j * 3, none⟩) hl).trans (hc j hj).1, (hb.cell (p := ⟨b, off + j * 3 + 1, none⟩) hl).trans (hc j hj).2.1, (hb.cell (p := ⟨b, off + j * 3 + 2, none⟩) hl).trans (hc j hj).2.2⟩⟩
end Go.Proofs.Ytignojhijmamhaa
namespace Go.Proofs.Ytignojhijmamhaa
open Go Go.RowKit Go.Sort
open Va (Bx heap1 bt VP str_eq str_ne below2)
def scn (A : Option Addr) (n c : Nat) (r : Int) (B : Option Addr) (m d g : Nat) : Array Value := #[.slice A n c, .int .i64 r, .slice B m d, .pointer (some ⟨g, 0, none⟩)]
set_option maxRecDepth 100000 in
set_option maxHeartbeats 1000000 in
theorem variable_any {w : World} {B : Option Addr} {ns : List NV} (hN : Nms w B ns) (hl : ns.length ≤ 4000) (A : Option Addr) (n c d g : Nat) (r : Int) (s : ByteArray) : Calls Try.prog 62 #[.agg (scn A n c r B ns.length d g), .string s] w (VP (named ns s).1 (named ns s).2 w) := by
  unfold scn
  have hX0 := (Bx.new w 67 [.slice A n c, .int .i64 r, .slice B ns.length d, .pointer (some ⟨g, 0, none⟩)]).alloc (.cells #[.int .i64 0, .int .i64 0] 41)
  have hX1 := Bx.new (w.alloc (.cells #[.slice A n c, .int .i64 r, .slice B ns.length d, .pointer (some ⟨g, 0, none⟩)] 67)) 41 [.int .i64 0, .int .i64 0]
  simp only [World.size_alloc] at hX1
  have hb0 : Below w.heap.size w ((w.alloc (.cells #[.slice A n c, .int .i64 r, .slice B ns.length d, .pointer (some ⟨g, 0, none⟩)] 67)).alloc (.cells #[.int .i64 0, .int .i64 0] 41)) := (heap1 _ _).alloc (by simp only [World.size_alloc]; omega) _
  obtain ⟨m, hm⟩ : ∃ m, ns.length = m := ⟨_, rfl⟩
  rw [hm] at hl ⊢ hX0 hX1 hb0
  obtain ⟨W0, hW0⟩ : ∃ W0, ((w.alloc (.cells #[.slice A n c, .int .i64 r, .slice B m d, .pointer (some ⟨g, 0, none⟩)] 67)).alloc (.cells #[.int .i64 0, .int .i64 0] 41)) = W0 := ⟨_, rfl⟩
  have HX0 := Lib.hid (show Bx W0 w.heap.size 67 [.slice A n c, .int .i64 r, .slice B m d, .pointer (some ⟨g, 0, none⟩)] by rw [← hW0]; exact hX0)
  have HX1 := Lib.hid (show Bx W0 (w.heap.size + 1) 41 [.int .i64 0, .int .i64 0] by rw [← hW0]; exact hX1)
  rw [hW0] at hb0
  have HB0 := Lib.hid hb0
  have HN := Lib.hid (hN.below hb0)
  have HM := Lib.hid hm
  have x02 := (HX0.out.cell 2).trans rfl
  clear hN hm hX0 hX1 hb0
  go_enter Try.func62, Try.ntmps62
  go_wp2
  clear x02
  go_loopw [10] (fun v wr => ∃ k : Nat, k ≤ m ∧ v = .int .i64 (k : Int) ∧ named (ns.drop k) s = named ns s ∧ Below W0.heap.size W0 wr) (fun v _ => m - (intOf v).toNat)
  case atStart => exact ⟨0, Nat.zero_le _, rfl, rfl, Below.refl _ _⟩
  case round =>
    obtain ⟨k, hk, rfl, hns, hb⟩ := hrel
    obtain ⟨W1, rfl⟩ : ∃ W1, W1 = wr := ⟨_, rfl⟩
    have HB1 := Lib.hid (bt HB0.out hb)
    by_cases hlt : k < m
    · have hkz : (k : Int) < (m : Int) := by omega
      have hkl : k < ns.length := by rw [HM.out]; exact hlt
      obtain ⟨b, off, rfl, hbl, hc⟩ := (HN.out.below hb) (by omega)
      obtain ⟨x0, x1, x2⟩ := hc k hkl
      rw [named_step hkl] at hns
      have HS := Lib.hid hns
      clear hc hns
      obtain ⟨tx, htx⟩ : ∃ tx, ns[k].tx = tx := ⟨_, rfl⟩
      obtain ⟨p, hp⟩ : ∃ p, ns[k].k = p := ⟨_, rfl⟩
      obtain ⟨q, hq⟩ : ∃ q, ns[k].n = q := ⟨_, rfl⟩
      have hbx := heap1 W1 (.cells #[.string tx, .int .i64 p, .int .i64 q] 71)
      have HX1' := Lib.hid ((HX1.out.below hb HX1.out.lt).below hbx (Nat.lt_of_lt_of_le HX1.out.lt hb.size))
      have HBx := Lib.hid (bt hb hbx)
      rw [htx] at x0
      rw [hp] at x1
      rw [hq] at x2
      rw [htx, hp, hq] at HS
      clear htx hp hq hbx
      by_cases h : tx = s
      · subst h
        have hs := str_eq tx
        have HE := Lib.hid (show named ns tx = (p, q) by have := HS.out; rw [if_pos rfl] at this; exact this.symm)
        have r0 := (HX1'.out.cell 0).trans rfl
        have r1 := (HX1'.out.cell 1).trans rfl
        have f0 := HX1'.out.frozen 0
        have f1 := HX1'.out.frozen 1
        clear HS hb hk
        go_wp2
        have z := (HX1'.out.set_ 0 (.int .i64 p)).set_ 1 (.int .i64 q)
        have c0 := (z.cell 0).trans rfl
        have c1 := (z.cell 1).trans rfl
        exact bodyPost_ret (v := .agg #[.int .i64 p, .int .i64 q]) (by simp [results, Try.results62, go_sem, c0, c1]) rfl (by rw [HE.out]; exact ⟨rfl, below2 (bt HB0.out HBx.out) (by omega)⟩)
      · have hs := str_ne h
        have HE := Lib.hid (show named (ns.drop (k + 1)) s = named ns s by have := HS.out; rw [if_neg h] at this; exact this)
        have HK := Lib.hid hlt
        clear h hk hb HS
        go_wp2
        go_roundw
        case rel => exact ⟨k + 1, by have := HK.out; omega, by go_num, HE.out, HBx.out⟩
        case measure => have := HK.out; simp [intOf]; omega
    · obtain rfl : k = m := by omega
      have hkz : ¬ (k : Int) < (k : Int) := by omega
      have HE := Lib.hid (show named ns s = (0, 0) by rw [← hns]; exact named_end (by rw [HM.out]; exact Nat.le_refl _) s)
      have HX1' := Lib.hid (HX1.out.below hb HX1.out.lt)
      have r0 := (HX1'.out.cell 0).trans rfl
      have r1 := (HX1'.out.cell 1).trans rfl
      have f0 := HX1'.out.frozen 0
      have f1 := HX1'.out.frozen 1
      clear hns hk hb
      go_wp2
      have z := (HX1'.out.set_ 0 (.int .i64 0)).set_ 1 (.int .i64 0)
      have c0 := (z.cell 0).trans rfl
      have c1 := (z.cell 1).trans rfl
      exact bodyPost_ret (v := .agg #[.int .i64 0, .int .i64 0]) (by simp [results, Try.results62, go_sem, c0, c1]) rfl (by rw [HE.out]; exact ⟨rfl, below2 HB1.out (by omega)⟩)
end Go.Proofs.Ytignojhijmamhaa
