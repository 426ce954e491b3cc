/- PROVED here: parts TyCe of the claim. No condition but those in each theorem's own head. -/
import Derived.Test.YtignojhijmamhaaK01
import Derived.Test.YtignojhijmamhaaK04
import Derived.Test.YtignojhijmamhaaK08
import Derived.RangeFuncNested
namespace Go.Proofs.Ytignojhijmamhaa.Ty
open Go Go.RowKit
open Tr (Bx heap1 bt Nds Ints Ib mkI seqF KpB)
structure RdS where
  ow : Int
  ar : Nat → Int
  dc : Value → Option Int
  pc : Value → Option Int
def rd0 : RdS := ⟨-1, fun _ => 0, fun _ => none, fun _ => none⟩
def owS (l : List Tr.Nd) (o : Int) (k : Nat) : Int := if (ndA l k).kd = 2 then -1 else if (ndA l k).kd = 3 then (k : Int) else o
def dcK (o : Int) (nm : ByteArray) : Value := .agg #[.int .i64 o, .string nm]
open Classical in
noncomputable def rdS (l : List Tr.Nd) (s : RdS) (k : Nat) : RdS where
  ow := owS l s.ow k
  ar := fun j => if j = k then owS l s.ow k else s.ar j
  dc := fun v => if decB (ndA l k).kd = true ∧ v = dcK (owS l s.ow k) (ndA l k).tx then some (k : Int) else s.dc v
  pc := fun v => if (ndA l k).kd = 3 ∧ v = .string (ndA l k).tx then some (k : Int) else s.pc v
noncomputable def rdL (l : List Tr.Nd) (ks : List Nat) : RdS := ks.foldl (rdS l) rd0
theorem rdL_snoc (l : List Tr.Nd) (ks : List Nat) (k : Nat) : rdL l (ks ++ [k]) = rdS l (rdL l ks) k := by unfold rdL; rw [List.foldl_append]; rfl
theorem rdL_ow (l : List Tr.Nd) (N : Nat) : ∀ (ks : List Nat) (s : RdS), (∀ k ∈ ks, k < N) → -1 ≤ s.ow ∧ s.ow ≤ (N : Int) → -1 ≤ (ks.foldl (rdS l) s).ow ∧ (ks.foldl (rdS l) s).ow ≤ (N : Int)
  | [], _, _, h => h
  | k :: ks, s, hk, h => by
    refine rdL_ow l N ks (rdS l s k) (fun j hj => hk j (List.mem_cons_of_mem _ hj)) ?_
    have := hk k (List.mem_cons_self ..)
    show -1 ≤ owS l s.ow k ∧ owS l s.ow k ≤ (N : Int)
    unfold owS
    split
    · omega
    · split <;> omega
def dclF (l : List Tr.Nd) (p : Nat) (v : Value) : Option Int :=
  match v with
  | .agg cs => match cs.toList with
    | [.int .i64 o, .string nm] => (dcF l o nm p).map fun q => (q : Int)
    | _ => none
  | _ => none
def prcF (l : List Tr.Nd) (p : Nat) (v : Value) : Option Int :=
  match v with
  | .string nm => (prF l nm p).map fun q => (q : Int)
  | _ => none
theorem dclF_none {l : List Tr.Nd} {p : Nat} {v : Value} (h : ∀ o nm, v ≠ dcK o nm) : dclF l p v = none := by
  unfold dclF
  split
  · rename_i cs
    split
    · rename_i o nm e
      exact absurd (show Value.agg cs = dcK o nm from congrArg Value.agg (by cases cs; simp_all)) (h o nm)
    · rfl
  · rfl
theorem prcF_none {l : List Tr.Nd} {p : Nat} {v : Value} (h : ∀ nm, v ≠ .string nm) : prcF l p v = none := by
  unfold prcF
  split
  · rename_i nm; exact absurd rfl (h nm)
  · rfl
theorem dcK_inj {o o' : Int} {nm nm' : ByteArray} (h : dcK o nm = dcK o' nm') : o = o' ∧ nm = nm' := by
  unfold dcK at h
  simpa using h
theorem dclF_at (l : List Tr.Nd) (p : Nat) (o : Int) (nm : ByteArray) : dclF l p (dcK o nm) = (dcF l o nm p).map fun q => (q : Int) := rfl
theorem prcF_at (l : List Tr.Nd) (p : Nat) (nm : ByteArray) : prcF l p (.string nm) = (prF l nm p).map fun q => (q : Int) := rfl
theorem dclF_end (l : List Tr.Nd) {p : Nat} (h : l.length ≤ p) (v : Value) : dclF l p v = none := by
  by_cases hv : ∃ o nm, v = dcK o nm
  · obtain ⟨o, nm, rfl⟩ := hv
    rw [dclF_at]; unfold dcF; rw [fstA_end h]; rfl
  · exact dclF_none fun o nm e => hv ⟨o, nm, e⟩
theorem prcF_end (l : List Tr.Nd) {p : Nat} (h : l.length ≤ p) (v : Value) : prcF l p v = none := by
  by_cases hv : ∃ nm, v = .string nm
  · obtain ⟨nm, rfl⟩ := hv
    rw [prcF_at]; unfold prF; rw [fstA_end h]; rfl
  · exact prcF_none fun nm e => hv ⟨nm, e⟩
open Classical in
theorem dclF_step {l : List Tr.Nd} {p : Nat} (h : p < l.length) (v : Value) : dclF l p v = if decB (ndA l p).kd = true ∧ v = dcK (owA l p) (ndA l p).tx then some (p : Int) else dclF l (p + 1) v := by
  by_cases hv : ∃ o nm, v = dcK o nm
  · obtain ⟨o, nm, rfl⟩ := hv
    rw [dclF_at, dclF_at]
    unfold dcF
    rw [fstA_step h]
    by_cases hB : dcB l o nm p = true
    · have h2 := hB
      unfold dcB at h2
      simp only [Bool.and_eq_true, decide_eq_true_eq] at h2
      rw [if_pos hB, if_pos ⟨h2.1, by rw [h2.2.1, h2.2.2]⟩]; rfl
    · rw [if_neg hB, if_neg]
      rintro ⟨h1, h2⟩
      obtain ⟨e1, e2⟩ := dcK_inj h2
      exact hB (by unfold dcB; simp [h1, e1, e2])
  · rw [if_neg (fun h => hv ⟨_, _, h.2⟩), dclF_none fun o nm e => hv ⟨o, nm, e⟩, dclF_none fun o nm e => hv ⟨o, nm, e⟩]
open Classical in
theorem prcF_step {l : List Tr.Nd} {p : Nat} (h : p < l.length) (v : Value) : prcF l p v = if (ndA l p).kd = 3 ∧ v = .string (ndA l p).tx then some (p : Int) else prcF l (p + 1) v := by
  by_cases hv : ∃ nm, v = .string nm
  · obtain ⟨nm, rfl⟩ := hv
    rw [prcF_at, prcF_at]
    unfold prF
    rw [fstA_step h]
    by_cases hB : prB l nm p = true
    · have h2 := hB
      unfold prB at h2
      simp only [Bool.and_eq_true, decide_eq_true_eq] at h2
      rw [if_pos hB, if_pos ⟨h2.1, by rw [h2.2]⟩]; rfl
    · rw [if_neg hB, if_neg]
      rintro ⟨h1, h2⟩
      exact hB (by unfold prB; simp at h2; simp [h1, h2])
  · rw [if_neg (fun h => hv ⟨_, h.2⟩), prcF_none fun nm e => hv ⟨nm, e⟩, prcF_none fun nm e => hv ⟨nm, e⟩]
def downL (n m : Nat) : List Nat := (seqF n m).map (·.val)
theorem rdL_down (l : List Tr.Nd) : ∀ (k m : Nat), l.length - m = k → m ≤ l.length → (rdL l (downL l.length m)).ow = owA l m ∧ (∀ j, m ≤ j → j < l.length → (rdL l (downL l.length m)).ar j = owA l j) ∧ (∀ v, (rdL l (downL l.length m)).dc v = dclF l m v) ∧ ∀ v, (rdL l (downL l.length m)).pc v = prcF l m v
  | 0, m, hk, hm => by
    obtain rfl : m = l.length := by omega
    have e : downL l.length l.length = [] := by unfold downL; rw [Tr.seqF_end]; rfl
    rw [e]
    exact ⟨(owA_end (Nat.le_refl _)).symm, fun j h1 h2 => by omega, fun v => (dclF_end l (Nat.le_refl _) v).symm, fun v => (prcF_end l (Nat.le_refl _) v).symm⟩
  | k + 1, m, hk, hm => by
    have hlt : m < l.length := by omega
    obtain ⟨h1, h2, h3, h4⟩ := rdL_down l k (m + 1) (by omega) (by omega)
    have e : downL l.length m = downL l.length (m + 1) ++ [m] := by unfold downL; rw [Tr.seqF_step hlt, List.map_append]; rfl
    rw [e, rdL_snoc]
    have ho : owS l (rdL l (downL l.length (m + 1))).ow m = owA l m := by rw [h1, owA_step hlt]; rfl
    refine ⟨ho, fun j hj1 hj2 => ?_, fun v => ?_, fun v => ?_⟩
    · show (if j = m then owS l _ m else _) = _
      by_cases e2 : j = m
      · subst e2; rw [if_pos rfl, ho]
      · rw [if_neg e2]; exact h2 j (by omega) hj2
    · rw [dclF_step hlt, ← h3, ← ho]; rfl
    · rw [prcF_step hlt, ← h4]; rfl
section
variable {l : List Tr.Nd} {s : RdS} {k : Nat} {kd : Int} {tx : ByteArray} {OW : Int}
theorem rdS_a (ho : owS l s.ow k = OW) : (rdS l s k).ow = OW ∧ ∀ j, (if j = k then OW else s.ar j) = (rdS l s k).ar j := ⟨ho, fun j => by unfold rdS; simp only [ho]⟩
open Classical in
theorem rdS_dc1 (hk : kd = (ndA l k).kd) (ht : tx = (ndA l k).tx) (ho : owS l s.ow k = OW) (hd : decB kd = true) (v : Value) : (if v = dcK OW tx then some (k : Int) else s.dc v) = (rdS l s k).dc v := by
  unfold rdS
  simp only [ho, ← hk, ← ht, hd, true_and]
theorem rdS_dc0 (hk : kd = (ndA l k).kd) (hd : decB kd = false) (v : Value) : s.dc v = (rdS l s k).dc v := by
  unfold rdS
  simp only [← hk, hd, Bool.false_eq_true, false_and, if_false]
open Classical in
theorem rdS_pc1 (hk : 3 = (ndA l k).kd) (ht : tx = (ndA l k).tx) (v : Value) : (if v = .string tx then some (k : Int) else s.pc v) = (rdS l s k).pc v := by
  unfold rdS
  simp only [← hk, ← ht, true_and]
theorem rdS_pc0 (hk : kd = (ndA l k).kd) (hd : kd ≠ 3) (v : Value) : s.pc v = (rdS l s k).pc v := by
  unfold rdS
  simp only [← hk, hd, false_and, if_false]
end
structure RdB (w : World) (A : Option Addr) (n c G B : Nat) (X0 : World) (ow : Int) (ar : Nat → Int) (dc pc : Value → Option Int) (cd cp : Nat) (X : World) : Prop where
  z : Bx X (w.heap.size + 1) 59 [.slice none 0 0, .slice none 0 0, .map none, .map none]
  p : Bx X (w.heap.size + 1 + 1 + 1 + 1) 59 [.slice A n c, .slice (some ⟨G, 0, none⟩) n n, .map (some (w.heap.size + 1 + 1)), .map (some (w.heap.size + 1 + 1 + 1))]
  d : MapIs X 82 (w.heap.size + 1 + 1) dc cd
  q : MapIs X 9 (w.heap.size + 1 + 1 + 1) pc cp
  o : Ib X G n ar
  s : Bx X (G + 1) 3 [.int .i64 ow]
  b : Below w.heap.size w X
  k : KeepsFrom B X0 X
  kp : KpB w.heap.size (G + 1 + 1) X0 X
  g : w.heap.size + 1 + 1 + 1 + 1 < G
  gB : G + 1 + 1 < B
section
variable {w : World} {A : Option Addr} {n c G B : Nat} {X0 X Y : World} {ow : Int} {ar : Nat → Int} {dc pc : Value → Option Int} {cd cp : Nat}
theorem RdB.own {row : Option Nat} (h : RdB w A n c G B X0 ow ar dc pc cd cp X) (hg : X.grownBy Y row) (hr : ∀ r, row = some r → B ≤ r ∧ ∃ o : Obj, X.heap[r]? = some o ∧ o.isCells = false) : RdB w A n c G B Y ow ar dc pc cd cp Y := by
  have hne : ∀ k, k < B → some k ≠ row := fun k hk e => by have := (hr k e.symm).1; omega
  have h1 := h.g
  have h2 := h.gB
  exact ⟨h.z.grown hg (hne _ (by omega)), h.p.grown hg (hne _ (by omega)), h.d.kept hg (hne _ (by omega)), h.q.kept hg (hne _ (by omega)), h.o.grown hg (hne _ (by omega)), h.s.grown hg (hne _ (by omega)),
    h.b.grown hg h.b.size (fun k e => by have := (hr k e).1; omega), KeepsFrom.refl _ _, ⟨Below.refl _ _, rfl⟩, h1, h2⟩
theorem RdB.start (h : RdB w A n c G B X0 ow ar dc pc cd cp X) : RdB w A n c G B X ow ar dc pc cd cp X := ⟨h.z, h.p, h.d, h.q, h.o, h.s, h.b, KeepsFrom.refl _ _, ⟨Below.refl _ _, rfl⟩, h.g, h.gB⟩
theorem kp_set {n₀ Bs b i : Nat} {u : Value} (h : n₀ ≤ b) (hne : Bs ≠ b) : KpB n₀ Bs X (X.setCell ⟨b, i, none⟩ u) := ⟨(Below.refl _ X).setCell (p := ⟨b, i, none⟩) h _, heap_setCell_other X _ _ _ hne⟩
theorem kp_trans {n₀ Bs : Nat} {a b c : World} (h : KpB n₀ Bs a b) (k : KpB n₀ Bs b c) : KpB n₀ Bs a c := ⟨h.1.trans k.1, k.2.trans h.2⟩
theorem RdB.setw (h : RdB w A n c G B X0 ow ar dc pc cd cp X) (v : Int) : RdB w A n c G B X0 v ar dc pc cd cp (X.setCell ⟨G + 1, 0, none⟩ (.int .i64 v)) := by
  have h1 := h.g
  have h2 := h.gB
  have hne : ∀ k, k ≠ G + 1 → (X.setCell ⟨G + 1, 0, none⟩ (.int .i64 v)).heap[k]? = X.heap[k]? := fun k hk => heap_setCell_other X _ _ _ hk
  exact ⟨h.z.same (hne _ (by omega)), h.p.same (hne _ (by omega)), h.d.same (hne _ (by omega)), h.q.same (hne _ (by omega)), (h.o.far (p := ⟨G + 1, 0, none⟩) (by show G ≠ G + 1; omega) _), h.s.set_ 0 _,
    h.b.setCell (p := ⟨G + 1, 0, none⟩) (by show _ ≤ G + 1; omega) _, h.k.trans ((KeepsOthers.setCell _ _ _).from _), kp_trans h.kp (kp_set (by omega) (by omega)), h1, h2⟩
theorem RdB.seto (h : RdB w A n c G B X0 ow ar dc pc cd cp X) (k : Nat) (v : Int) : RdB w A n c G B X0 ow (fun j => if j = k then v else ar j) dc pc cd cp (X.setCell ⟨G, k, none⟩ (.int .i64 v)) := by
  have h1 := h.g
  have h2 := h.gB
  have hne : ∀ j, j ≠ G → (X.setCell ⟨G, k, none⟩ (.int .i64 v)).heap[j]? = X.heap[j]? := fun j hk => heap_setCell_other X _ _ _ hk
  exact ⟨h.z.same (hne _ (by omega)), h.p.same (hne _ (by omega)), h.d.same (hne _ (by omega)), h.q.same (hne _ (by omega)), h.o.set_ k v, h.s.same (hne _ (by omega)),
    h.b.setCell (p := ⟨G, k, none⟩) (by show _ ≤ G; omega) _, h.k.trans ((KeepsOthers.setCell _ _ _).from _), kp_trans h.kp (kp_set (by omega) (by omega)), h1, h2⟩
theorem kp_grown {n₀ Bs b : Nat} (hg : X.grownBy Y (some b)) (h : n₀ ≤ b) (hne : Bs ≠ b) (hs : n₀ ≤ X.heap.size) (hl : Bs < X.heap.size) : KpB n₀ Bs X Y :=
  ⟨(Below.refl _ X).grown hg hs (fun k e => by cases e; exact h), hg.block Bs hl (fun e => hne (Option.some.inj e))⟩
open Classical in
theorem RdB.putd (h : RdB w A n c G B X0 ow ar dc pc cd cp X) (hcd : cd < 100000) (hl : G + 1 + 1 < X.heap.size) (o : Int) (nm : ByteArray) (ho : (Lit.int .i64 o).wf = true) (hn : nm.size ≤ 9223372036854775807) (v : Int) (hv : (Lit.int .i64 v).wf = true) :
    ∃ Y, (Instr.mapUpdate 56 (.map (some (w.heap.size + 1 + 1))) (.agg #[.int .i64 o, .string nm]) (.int .i64 v)).run Try.prog X = .ok () Y ∧ RdB w A n c G B X0 ow ar (fun x => if x = dcK o nm then some v else dc x) pc (cd + 1) cp Y ∧ X.heap.size ≤ Y.heap.size := by
  have h1 := h.g
  have h2 := h.gB
  obtain ⟨kl, hk⟩ := keyOfC o nm ho hn
  obtain ⟨Y, hrun, hM, hg⟩ := h.d.put keyC Try.underlying56 hcd hk hv
  have hne : ∀ k, k ≠ w.heap.size + 1 + 1 → some k ≠ some (w.heap.size + 1 + 1) := fun k hk e => hk (Option.some.inj e)
  exact ⟨Y, hrun, ⟨h.z.grown hg (hne _ (by omega)), h.p.grown hg (hne _ (by omega)), hM, h.q.kept hg (hne _ (by omega)), h.o.grown hg (hne _ (by omega)), h.s.grown hg (hne _ (by omega)),
    h.b.grown hg h.b.size (fun k e => by cases e; omega), h.k.trans (KeepsFrom.of_grownBy hg (fun j e => by cases e; omega)), kp_trans h.kp (kp_grown hg (by omega) (by omega) h.b.size hl), h1, h2⟩, hg.size⟩
open Classical in
theorem RdB.putp (h : RdB w A n c G B X0 ow ar dc pc cd cp X) (hcp : cp < 100000) (hl : G + 1 + 1 < X.heap.size) (nm : ByteArray) (hn : nm.size ≤ 9223372036854775807) (v : Int) (hv : (Lit.int .i64 v).wf = true) :
    ∃ Y, (Instr.mapUpdate 57 (.map (some (w.heap.size + 1 + 1 + 1))) (.string nm) (.int .i64 v)).run Try.prog X = .ok () Y ∧ RdB w A n c G B X0 ow ar dc (fun x => if x = .string nm then some v else pc x) cd (cp + 1) Y ∧ X.grownBy Y (some (w.heap.size + 1 + 1 + 1)) := by
  have h1 := h.g
  have h2 := h.gB
  obtain ⟨Y, hrun, hM, hg⟩ := h.q.put keyS Try.underlying57 hcp (keyOfS nm hn) hv
  have hne : ∀ k, k ≠ w.heap.size + 1 + 1 + 1 → some k ≠ some (w.heap.size + 1 + 1 + 1) := fun k hk e => hk (Option.some.inj e)
  exact ⟨Y, hrun, ⟨h.z.grown hg (hne _ (by omega)), h.p.grown hg (hne _ (by omega)), h.d.kept hg (hne _ (by omega)), hM, h.o.grown hg (hne _ (by omega)), h.s.grown hg (hne _ (by omega)),
    h.b.grown hg h.b.size (fun k e => by cases e; omega), h.k.trans (KeepsFrom.of_grownBy hg (fun j e => by cases e; omega)), kp_trans h.kp (kp_grown hg (by omega) (by omega) h.b.size hl), h1, h2⟩, hg⟩
end
end Go.Proofs.Ytignojhijmamhaa.Ty
