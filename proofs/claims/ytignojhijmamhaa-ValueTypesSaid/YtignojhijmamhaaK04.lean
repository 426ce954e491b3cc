/- PROVED here: parts TyNb of the claim. No condition but those in each theorem's own head. -/
import Derived.Test.YtignojhijmamhaaK03
namespace Go.Proofs.Ytignojhijmamhaa.Ty.Tr
open Go Go.RowKit Go.Shelf
attribute [local go_sem] Oper.semAt_some
structure NV where
  kd : Int
  n : Int
  pl : Int
  tx : ByteArray
  K : Option Addr
  m : Nat
  c : Nat
def NV.no : NV := ⟨0, 0, 0, ⟨#[]⟩, none, 0, 0⟩
def NV.v (x : NV) : Value := .agg #[.int .i64 x.kd, .int .i64 x.n, .int .i64 x.pl, .string x.tx, .slice x.K x.m x.c]
structure NV.In (x : NV) (w : World) (b i : Nat) : Prop where
  c0 : w.cell? ⟨b, i, none⟩ = some (.int .i64 x.kd)
  c1 : w.cell? ⟨b, i + 1, none⟩ = some (.int .i64 x.n)
  c2 : w.cell? ⟨b, i + 2, none⟩ = some (.int .i64 x.pl)
  c3 : w.cell? ⟨b, i + 3, none⟩ = some (.string x.tx)
  c4 : w.cell? ⟨b, i + 4, none⟩ = some (.slice x.K x.m x.c)
theorem NV.In.below {x : NV} {w w' : World} {b i n₀ : Nat} (h : x.In w b i) (hb : Below n₀ w w') (hl : b < n₀) : x.In w' b i :=
  ⟨(hb.cell (p := ⟨b, i, none⟩) hl).trans h.c0, (hb.cell (p := ⟨b, i + 1, none⟩) hl).trans h.c1, (hb.cell (p := ⟨b, i + 2, none⟩) hl).trans h.c2, (hb.cell (p := ⟨b, i + 3, none⟩) hl).trans h.c3, (hb.cell (p := ⟨b, i + 4, none⟩) hl).trans h.c4⟩
def seqF (n m : Nat) : List (Fin n) := ((List.finRange n).drop m).reverse
theorem seqF_step {n m : Nat} (h : m < n) : seqF n m = seqF n (m + 1) ++ [⟨m, h⟩] := by
  unfold seqF
  rw [List.drop_eq_getElem_cons (by simpa using h), List.reverse_cons]
  simp
theorem seqF_end (n : Nat) : seqF n n = [] := by unfold seqF; simp
theorem seqF_len (n m : Nat) : (seqF n m).length = n - m := by unfold seqF; simp
set_option maxRecDepth 100000 in
set_option maxHeartbeats 1500000 in
theorem back1n_in (l Bs n₀ : Nat) (A : Option Addr) (cap n : Nat) (nv : Nat → NV) (J Jx : List (Fin n) → World → Prop)
    (hY : ∀ (pre : List (Fin n)) (x : Fin n) W, J pre W → pre.length < n → YieldAt Fence.wide 1 Try.prog l #[.int .i64 ((x : Nat) : Int), (nv x).v] W fun e W' =>
      (e = .returned (.bool true) ∧ J (pre ++ [x]) W' ∧ KpB n₀ Bs W W') ∨ (e = .returned (.bool false) ∧ Jx (pre ++ [x]) W')) (hn4 : n ≤ 4000000)
    (W : World) (hBs : W.cell? ⟨Bs, 0, none⟩ = some (.slice A n cap)) (hA : ∀ j, j < n → ∃ b off, A = some ⟨b, off, none⟩ ∧ b < n₀ ∧ (nv j).In W b (off + j * 5)) (h0 : J [] W) :
    CallsIn Fence.wide 2 Try.prog 54 #[.func (.yield l) #[] #[], .pointer (some ⟨Bs, 0, none⟩)] W fun e W' => (∃ v, e = .returned v) ∧
      ((∃ ys, ys = seqF n 0 ∧ J ys W') ∨ (∃ pre, (∃ k, k ≤ n ∧ pre = seqF n k) ∧ Jx pre W')) := by
  refine callsIn_of_wp Try.func54 rfl trivial ?_ rfl
  simp only [Try.ntmps54, List.size_toArray, List.length_cons, List.length_nil, Nat.reduceAdd, Nat.reduceSub, Array.replicate_succ, Array.replicate_zero, List.push_toArray, List.append_toArray, List.nil_append, List.cons_append]
  gi_wp2
  gi_loopw [3] (fun i wr => ∃ m : Nat, m ≤ n ∧ i = .int .i64 ((m : Int) - 1) ∧ J (seqF n m) wr ∧ Below n₀ W wr ∧ wr.cell? ⟨Bs, 0, none⟩ = W.cell? ⟨Bs, 0, none⟩)
    (fun i _ => (intOf i + 1).toNat)
  case atStart => exact ⟨n, Nat.le_refl _, by go_num, by rw [seqF_end]; exact h0, Below.refl _ _, rfl⟩
  case round =>
    obtain ⟨m, hm, rfl, hJs, hnx, hcB⟩ := hrel
    rw [hBs] at hcB
    cases m with
    | zero =>
      gi_wp2
      go_end0
      exact ⟨⟨_, rfl⟩, .inl ⟨_, rfl, hJs⟩⟩
    | succ m =>
      rw [show (((m + 1 : Nat) : Int) - 1) = (m : Int) by omega]
      obtain ⟨b, off, rfl, hb, hc⟩ := hA m (by omega)
      have hcx := NV.In.below hc hnx hb
      have HU := Lib.hid (seqF_step (n := n) (m := m) (by omega))
      obtain ⟨fn, tmps, assign, body, hy, hR⟩ := hY _ ⟨m, by omega⟩ wr hJs (by rw [seqF_len]; omega)
      dsimp only [NV.v] at hy
      generalize nv m = z at *
      obtain ⟨z0, z1, z2, z3, z4, z5, z6⟩ := z
      obtain ⟨y0, y1, y2, y3, y4⟩ := hcx
      dsimp only at y0 y1 y2 y3 y4
      have hm0 : (0 : Int) ≤ (m : Int) := by omega
      gi_wp2
      refine hR.mono ?_
      rintro e W3 (⟨rfl, hJ3, hk3⟩ | ⟨rfl, hJx3⟩)
      · have hcB3 : W3.cell? ⟨Bs, 0, none⟩ = some (.slice (some ⟨b, off, none⟩) n cap) := (cell_same hk3.2 0).trans hcB
        gi_wp2
        go_roundw
        case rel => exact ⟨m, by omega, by go_num, by rw [HU.out]; exact hJ3, hnx.trans hk3.1, hcB3.trans hBs.symm⟩
        case measure => simp [intOf]
      · gi_wp2
        refine bodyPost_ret (results_none rfl _ _ _) rfl ?_
        exact ⟨⟨_, rfl⟩, .inr ⟨_, ⟨m, by omega, HU.out.symm⟩, hJx3⟩⟩
set_option maxHeartbeats 1000000 in
theorem backn_in (A : Option Addr) (len cap : Nat) (w : World) :
    CallsIn Fence.wide 2 Try.prog 33 #[.slice A len cap] w fun e w' => e = .returned (.func (.func 54) #[] #[.pointer (some ⟨w.heap.size, 0, none⟩)]) ∧ w' = w.alloc (.cells #[.slice A len cap] 22) := by
  refine callsIn_of_wp Try.func33 rfl trivial ?_ rfl
  simp only [Try.ntmps33, List.size_toArray, List.length_cons, List.length_nil, Nat.reduceAdd, Nat.reduceSub, Array.replicate_succ, Array.replicate_zero, List.push_toArray, List.append_toArray, List.nil_append, List.cons_append]
  gi_wp2
  go_ret
  exact ⟨rfl, rfl⟩
theorem backn_stops (Bs n₀ : Nat) (A : Option Addr) (cap n : Nat) (nv : Nat → NV) (hn4 : n ≤ 4000000) (w : World) (hBs : Bs < w.heap.size) (hn₀ : n₀ ≤ w.heap.size)
    (hc : w.cell? ⟨Bs, 0, none⟩ = some (.slice A n cap)) (hA : ∀ j, j < n → ∃ b off, A = some ⟨b, off, none⟩ ∧ b < n₀ ∧ (nv j).In w b (off + j * 5)) :
    SeqStopsK Fence.wide 2 Try.prog 54 #[.pointer (some ⟨Bs, 0, none⟩)] (fun x : Fin n => #[Value.int .i64 ((x : Nat) : Int), (nv x).v]) (KpB n₀ Bs) (fun ys => ys = seqF n 0)
      (fun pre => ∃ k, k ≤ n ∧ pre = seqF n k) n w := fun l J Jx W hW _ _ hY h0 => by
  have hc' := (hW.cell (p := ⟨Bs, 0, none⟩) hBs).trans hc
  refine back1n_in l Bs n₀ A cap n nv J Jx hY hn4 W hc' (fun j hj => ?_) h0
  obtain ⟨b, off, e, hb, h⟩ := hA j hj
  exact ⟨b, off, e, hb, h.below hW (show b < w.heap.size by omega)⟩
end Go.Proofs.Ytignojhijmamhaa.Ty.Tr
