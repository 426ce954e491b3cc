/- PROVED here: the contracts of all jobs of the parser; of proc. No condition but those in each theorem's own head. -/
import Derived.Test.YtdoeinjplgeadaaGreatDoorQd
namespace Go.Proofs.YtdoeinjplgeadaaGreatDoor
open Go Go.RowKit
open Tr (Bx heap1 bt gen_world ret_int ret_bool cell_same)

theorem out_absurd {r : Rs} {C : Prop} (h : r = .out) (hne : r ≠ .out) : C := absurd h hne
theorem run_z {ts : List Tok} (ht : TsOk ts) (f : Nat) : Rz ts (run ts f) := by
  induction f using Nat.strongRecOn with
  | _ f ih =>
    refine ⟨run_nk ts f, fun s h => ?_, fun X w base g A c V s h => ?_⟩
    · have k := run_ok ht True f s h
      exact ⟨fun _ => k.1 (.inl trivial), fun r h1 h6 _ => k.2.1 r h1 h6 (.inl trivial), fun r l h1 h5 _ => k.2.2.1 r l h1 h5 (.inl trivial), fun a _ => k.2.2.2.1 a (.inl trivial), fun _ => k.2.2.2.2.1 (.inl trivial), fun p a _ => k.2.2.2.2.2.1 p a (.inl trivial), fun k' a _ => k.2.2.2.2.2.2.1 k' a (.inl trivial), fun a _ => k.2.2.2.2.2.2.2.1 a (.inl trivial), fun a _ => k.2.2.2.2.2.2.2.2 a (.inl trivial)⟩
    · cases f with
      | zero => exact ⟨fun q => absurd rfl q, fun _ _ _ q => absurd rfl q, fun q => absurd rfl q, fun _ _ q => absurd rfl q⟩
      | succ f =>
        have hI : ∀ f', f' ≤ f → Rz ts (run ts f') := fun f' hf => ih f' (by omega)
        exact ⟨fun q => una_z (hI f (Nat.le_refl _)) h q, fun r h1 h6 q => bin_z hI h r h1 h6 q, fun q => stmt_z hI h q, fun pl ho q => stmts_z (fun f' hf => ih f' hf) h pl ho q⟩
section
variable {X X2 : Nat → Prop} {w0 w2 w : World} {base g c : Nat} {A : Option Addr} {ts : List Tok} {V0 V2 V : Value} {s : St} {v v2 : Value} {l l2 : List Int}
/-- 'append(places, x)' as an operation of its own; boxes of other types stand -/
theorem rw_append_wp {o : Oper} {a : Act} {K : Act → World → Prop} {Q : Exit → Act → World → Prop} (p x : Operand)
    (ho : o.op = .call { callee := .builtin .append, args := #[p, x], argTypes := #[37, 37] }) (n : Int) (h : Rw X w0 V0 w base g A c ts V s v l) (hs : a.eval p = v)
    (hx : a.eval x = .slice (some ⟨w.heap.size, 0, none⟩) 1 1) (hlen : l.length ≤ 900000)
    (hk : ∀ v' w', Rw X w0 V0 w' base g A c ts V s v' (l ++ [n]) → (∀ b t q, t ≠ 3 → Bx w b t q → Bx w' b t q) → K (a.put o.dst v') w') : o.wp Tryz.prog a (w.alloc (.cells #[.int .i64 n] 3)) K Q := by
  obtain ⟨i0, hi, hz0, hz1, hz2⟩ := info_parts info3
  have h' := h.below (heap1 w (.cells #[.int .i64 n] 3))
  refine wp_append_own2 (w.alloc (.cells #[.int .i64 n] 3)) p x 37 ho w0.heap.size 3 i0 (.int .i64 0) 1 8 Tryz.underlying37 hi hz0 hz1 hz2 rfl (by decide) v l.length (l.map (Value.int .i64)) hs h'.own ⟨w.heap.size, 0, none⟩ 1 1 [.int .i64 n] hx rfl (blk_cells w [.int .i64 n] 3) ?_ (by unfold maxLen; omega) (by omega) h'.fo.fr.size ?_
  · intro u hu
    obtain rfl : u = .int .i64 n := by simpa using hu
    rfl
  · intro v' w' h2 h3 h4
    refine hk v' w' (h'.grown (ms := [n]) ?_ h3 h4) fun b t q ht hB => ?_
    · rw [List.length_append, List.map_append]
      exact h2
    · have hB' := Tr.Bx.alloc hB (.cells #[.int .i64 n] 3)
      exact (h3.block b hB'.lt (fun e => by
        rcases h'.own.2 with ⟨e1, _⟩ | ⟨b', cap, cur, e1, _, e3, _⟩
        · rw [e1] at e; exact absurd e (by simp [Value.ownBlock])
        · rw [e1] at e
          obtain rfl : b = b' := by simpa [Value.ownBlock] using e
          have := e3.symm.trans hB'
          simp at this
          exact ht this.2.symm)).trans hB'
/-- 'append(places, row...)'; boxes of other types stand -/
theorem rw_appends2 {ops : Array Oper} {rest : List Oper} {o : Oper} {a : Act} {Q : Exit → Act → World → Prop} (hgd : o.guard = none) (p x : Operand)
    (ho : o.op = .call { callee := .builtin .append, args := #[p, x], argTypes := #[37, 37] }) (h : Rw X w0 V0 w base g A c ts V s v l) (h2 : Rw X2 w2 V2 w base g A c ts V s v2 l2) (hs : a.eval p = v) (hx : a.eval x = v2) (hlen : l.length + l2.length ≤ 1000000)
    (hk : ∀ v' w', Rw X w0 V0 w' base g A c ts V s v' (l ++ l2) → (∀ b t q, t ≠ 3 → Bx w b t q → Bx w' b t q) → wpList Tryz.prog ops Q rest (a.put o.dst v') w') : wpList Tryz.prog ops Q (o :: rest) a w := by
  have hc := fun (b : Nat) (q : v2.ownBlock = some b) => h2.own.cells (g := b) q
  rcases h2.own.2 with ⟨e1, e2⟩ | ⟨b, cap, cur, e1, _⟩
  · obtain ⟨i0, hi, _, hz1, _⟩ := info_parts info3
    obtain rfl : l2 = [] := List.eq_nil_of_length_eq_zero e2
    refine wpList_append_own_none hgd p x 37 ho w0.heap.size 3 i0 1 Tryz.underlying37 hi v l.length (l.map (Value.int .i64)) hs h.own (by rw [hx, e1]) ?_
    exact hk v w (by rw [List.append_nil]; exact h) (fun _ _ _ _ q => q)
  · obtain ⟨i0, hi, hz0, hz1, hz2⟩ := info_parts info3
    refine wpList_plain hgd fun K hK => ?_
    refine wp_append_own2 w p x 37 ho w0.heap.size 3 i0 (.int .i64 0) 1 8 Tryz.underlying37 hi hz0 hz1 hz2 rfl (by decide) v l.length (l.map (Value.int .i64)) hs h.own ⟨b, 0, none⟩ l2.length cap (l2.map (Value.int .i64)) (by rw [hx, e1]) (by rw [List.length_map]; omega) (hc b (by rw [e1]; rfl)) ?_ (by unfold maxLen; omega) (by omega) h.fo.fr.size ?_
    · intro u hu
      obtain ⟨z, _, rfl⟩ := List.mem_map.1 hu
      rfl
    · intro v' w' h3 h4 h5
      refine hK _ _ (hk v' w' (h.grown ?_ h4 h5) fun b t q ht hB => ?_)
      · rw [List.length_append, List.map_append]
        exact h3
      · exact (h4.block b hB.lt (fun e => by
          rcases h.own.2 with ⟨e1, _⟩ | ⟨b', cap, cur, e1, _, e3, _⟩
          · rw [e1] at e; exact absurd e (by simp [Value.ownBlock])
          · rw [e1] at e
            obtain rfl : b = b' := by simpa [Value.ownBlock] using e
            have := e3.symm.trans hB
            simp at this
            exact ht this.2.symm)).trans hB
end
/-- a store into a box that is neither the parser's nor the row's -/
theorem Rw.far {X : Nat → Prop} {w0 w : World} {base g c : Nat} {A : Option Addr} {ts : List Tok} {V0 V : Value} {s : St} {v : Value} {l : List Int} {b : Nat} {t : TypeId} {q : List Value} (h : Rw X w0 V0 w base g A c ts V s v l) (hB : Bx w b t q) (ht : t ≠ 3) (hg : b ≠ g) (hV : V.ownBlock ≠ some b) (hbb : w0.heap.size ≤ b) (i : Nat) (u : Value) : Rw X w0 V0 (w.setCell ⟨b, i, none⟩ u) base g A c ts V s v l := by
  have hfr : Fr (fun k => k = b) w (w.setCell ⟨b, i, none⟩ u) := Fr.set (E := fun k => k = b) (Fr.refl _ _) rfl _
  refine ⟨h.z.far hB ht hg hV (Nat.le_trans h.hb0 hbb) i u, own_kept h.own hfr (fun k hk e => ?_), h.fo.new hbb i u, h.hX0, h.hb0⟩
  subst e
  rcases h.own.2 with ⟨e1, _⟩ | ⟨b', cap, cur, e1, _, e3, _⟩
  · rw [e1] at hk; exact absurd hk (by simp [Value.ownBlock])
  · rw [e1] at hk
    obtain rfl : b' = k := by simpa [Value.ownBlock] using hk
    have := e3.symm.trans hB
    simp at this
    exact ht this.2.symm
end Go.Proofs.YtdoeinjplgeadaaGreatDoor
