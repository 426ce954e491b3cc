/- PROVED here: a row of places that a step gathers; an append to it. No condition but those in each theorem's own head. -/
import Derived.Test.YtdoeinjplgeadaaGreatDoorPt
import Derived.Laws.AppendOwnNone
namespace Go.Proofs.YtdoeinjplgeadaaGreatDoor
open Go Go.RowKit
open Tr (Bx heap1 bt gen_world ret_int ret_bool cell_same)

section
variable {X : Nat → Prop} {w0 w w' : World} {base g c : Nat} {A : Option Addr} {ts : List Tok} {V0 V V' : Value} {s s' : St} {v : Value} {l : List Int}
theorem Kd.weak {X' : Nat → Prop} {K : Option Addr} {ks : List Int} (h : Kd w X K ks) (k : ∀ b, X' b → X b) : Kd w X' K ks := fun h0 => by
  obtain ⟨b, cs, e, hb, hc, hx⟩ := h h0
  exact ⟨b, cs, e, hb, hc, fun q => hx (k b q)⟩
theorem Nodes.weak {X' : Nat → Prop} {nd : List Nd} (h : Nodes w X base V nd) (k : ∀ b, X' b → X b) : Nodes w X' base V nd := by
  obtain ⟨xs, h1, h2⟩ := h
  refine ⟨xs, h1, fun j hj => ?_⟩
  obtain ⟨K, c, e, hk⟩ := h2 j hj
  exact ⟨K, c, e, hk.weak k⟩
/-- blocks that are not yet there: no kids lie in them -/
theorem Nodes.more {Y : Nat → Prop} {nd : List Nd} (h : Nodes w X base V nd) (hY : ∀ b, Y b → w.heap.size ≤ b) : Nodes w (fun b => X b ∨ Y b) base V nd := by
  obtain ⟨xs, h1, h2⟩ := h
  refine ⟨xs, h1, fun j hj => ?_⟩
  obtain ⟨K, c, e, hk⟩ := h2 j hj
  refine ⟨K, c, e, fun h0 => ?_⟩
  obtain ⟨b, cs, e, hb, hc, hx⟩ := hk h0
  refine ⟨b, cs, e, hb, hc, fun q => q.elim hx (fun y => ?_)⟩
  have := hY b y
  have := (Array.getElem?_eq_some_iff.1 hb).1
  omega
theorem Pz.weak {X' : Nat → Prop} (h : Pz X w base g A c ts V s) (k : ∀ b, X' b → X b) : Pz X' w base g A c ts V s := ⟨h.px, h.nd.weak k, h.hb, h.gb, h.hA, h.hn, h.h40, h.ok, fun b q => h.hX b (k b q)⟩
/-- a row of places that a step gathers: its own, and no node's kids -/
structure Rw (X : Nat → Prop) (w0 : World) (V0 : Value) (w : World) (base g : Nat) (A : Option Addr) (c : Nat) (ts : List Tok) (V : Value) (s : St) (v : Value) (l : List Int) : Prop where
  z : Pz (fun b => X b ∨ v.ownBlock = some b) w base g A c ts V s
  own : w.ownsRow w0.heap.size 3 1 v l.length (l.map (Value.int .i64))
  fo : Fo w0 w g V0 V
  hX0 : ∀ b, X b → b < w0.heap.size
  hb0 : base ≤ w0.heap.size
theorem Rw.pz (h : Rw X w0 V0 w base g A c ts V s v l) : Pz X w base g A c ts V s := h.z.weak (fun _ q => .inl q)
theorem Rw.nil (h : Pz X w base g A c ts V s) : Rw X w V w base g A c ts V s (.slice none 0 0) [] :=
  ⟨h.weak (fun _ q => q.elim id (fun e => absurd e (by simp [Value.ownBlock]))), World.ownsRow_nil w w.heap.size 3 1, Fo.refl _ _ _, h.hX, h.hb⟩
/-- the row's block is none of the parser's -/
theorem Rw.apart (h : Rw X w0 V0 w base g A c ts V s v l) {b : Nat} (hb : v.ownBlock = some b) : ¬ PE g V b := fun e => by
  rcases h.own.2 with ⟨e1, _⟩ | ⟨b', cap, cur, e1, _, e3, _⟩
  · rw [e1] at hb; exact absurd hb (by simp [Value.ownBlock])
  rw [e1] at hb
  obtain rfl : b' = b := by simpa [Value.ownBlock] using hb
  rcases e with e | e
  · subst e
    have := e3.symm.trans h.z.px.box
    simp at this
  · obtain ⟨xs, ho, _⟩ := h.z.nd
    rcases ho.2 with ⟨q1, _⟩ | ⟨b2, cap2, cur2, q1, _, q3, _⟩
    · rw [q1] at e; exact absurd e (by simp [Value.ownBlock])
    · rw [q1] at e
      obtain rfl : b2 = b' := by simpa [Value.ownBlock] using e
      have := e3.symm.trans q3
      simp at this
theorem own_kept {E : Nat → Prop} {b0 : Nat} {xs : List Value} {n : Nat} (h : w.ownsRow b0 3 1 v n xs) (k : Fr E w w') (hE : ∀ b, v.ownBlock = some b → ¬ E b) : w'.ownsRow b0 3 1 v n xs := by
  refine ⟨h.1, h.2.imp id ?_⟩
  rintro ⟨b, cap, cur, h1, h2, h3, h4⟩
  exact ⟨b, cap, cur, h1, h2, (k.block b (Array.getElem?_eq_some_iff.1 h3).1 (hE b (by rw [h1]; rfl))).trans h3, h4⟩
theorem Rw.step (h : Rw X w0 V0 w base g A c ts V s v l) (z' : Pz (fun b => X b ∨ v.ownBlock = some b) w' base g A c ts V' s') (f : Fo w w' g V V') : Rw X w0 V0 w' base g A c ts V' s' v l :=
  ⟨z', own_kept h.own f.fr (fun _ hb => h.apart hb), h.fo.trans f, h.hX0, h.hb0⟩
theorem Rw.below (h : Rw X w0 V0 w base g A c ts V s v l) (hb : Below w.heap.size w w') : Rw X w0 V0 w' base g A c ts V s v l := h.step (h.z.below hb) (Fo.below hb)
/-- handed to a node as its kids -/
theorem Rw.kd (h : Rw X w0 V0 w base g A c ts V s v l) : ∃ K cc, v = .slice K l.length cc ∧ Kd w X K l := by
  rcases h.own.2 with ⟨e1, e2⟩ | ⟨b, cap, cur, e1, e2, e3, _, _, _, e4⟩
  · exact ⟨none, 0, by rw [e1, e2], fun h0 => by omega⟩
  · refine ⟨_, _, e1, fun _ => ⟨b, cur, rfl, e3, fun j hj => ?_, fun q => by have := h.hX0 b q; omega⟩⟩
    have e5 : (cur.toList.take (l.length * 1))[j]? = some (.int .i64 l[j]) := by rw [e4]; simp [hj]
    rw [List.getElem?_take] at e5
    split at e5
    · simpa using e5
    · cases e5
/-- its cells, as the source of an append -/
theorem Rw.src (h : Rw X w0 V0 w base g A c ts V s v l) (h0 : 0 < l.length) : ∃ b cc, v = .slice (some ⟨b, 0, none⟩) l.length cc ∧ ∀ j u, (l.map (Value.int .i64))[j]? = some u → w.cell? ((⟨b, 0, none⟩ : Addr).add j) = some u := by
  have hc := fun (b : Nat) (q : v.ownBlock = some b) => h.own.cells (g := b) q
  rcases h.own.2 with ⟨_, e2⟩ | ⟨b, cap, cur, e1, _⟩
  · omega
  · exact ⟨b, cap, e1, hc b (by rw [e1]; rfl)⟩
theorem info3 : (Tryz.prog.info? 3).map (fun i => (i.zero, i.size, i.bytes)) = some (some (.int .i64 0), 1, 8) := by kernel_rfl
/-- the world behind an append to the row -/
theorem Rw.grown {v' : Value} {ms : List Int} (h : Rw X w0 V0 w base g A c ts V s v l) (ho : w'.ownsRow w0.heap.size 3 1 v' (l ++ ms).length ((l ++ ms).map (Value.int .i64))) (hg : w.grownBy w' v.ownBlock) (hf : ∀ k, v'.ownBlock = some k → v.ownBlock = some k ∨ w.heap.size ≤ k) : Rw X w0 V0 w' base g A c ts V s v' (l ++ ms) := by
  have hfr : Fr (fun b => v.ownBlock = some b) w w' := ⟨hg.os, hg.tape, hg.output, hg.size, fun b hb hE => hg.block b hb (fun e => hE e.symm)⟩
  have hap : ∀ b, v.ownBlock = some b → ¬ PE g V b := fun b hb => h.apart hb
  have hlow : ∀ b, v.ownBlock = some b → w0.heap.size ≤ b := fun b hb => (h.own.lt b hb).1
  have hz := h.z
  have hbx : Bx w' g 70 [.slice A ts.length c, .int .i64 (s.nx : Int), V, .int .i64 (s.op : Int), .int .i64 (s.mo : Int)] := Bx.fr hz.px.box hfr (fun e => hap g e (.inl rfl))
  have htk : Toks w' A ts := hz.px.toks.fr hfr (fun a ha e => by have := hz.hA a ha; have := hlow _ e; have := h.hb0; omega)
  obtain ⟨xs, hn1, hn2⟩ := hz.nd.more (Y := fun b => v'.ownBlock = some b ∧ w.heap.size ≤ b) (fun b q => q.2)
  have hnd : Nodes w' (fun b => X b ∨ v'.ownBlock = some b) base V s.nd := by
    refine ⟨xs, ?_, fun j hj => ?_⟩
    · refine ⟨hn1.1, hn1.2.imp id ?_⟩
      rintro ⟨b, cap, cur, h1, h2, h3, h4⟩
      exact ⟨b, cap, cur, h1, h2, (hfr.block b (Array.getElem?_eq_some_iff.1 h3).1 (fun e => hap b e (.inr (by rw [h1]; rfl)))).trans h3, h4⟩
    · obtain ⟨K, c, e, hk⟩ := hn2 j hj
      refine ⟨K, c, e, fun h0 => ?_⟩
      obtain ⟨b, cs, e, hb, hc, hx⟩ := hk h0
      refine ⟨b, cs, e, (hfr.block b (Array.getElem?_eq_some_iff.1 hb).1 (fun q => hx (.inl (.inr q)))).trans hb, hc, fun q => hx (q.elim (fun q => .inl (.inl q)) (fun q => ?_))⟩
      exact (hf b q).elim (fun r => .inl (.inr r)) (fun r => .inr ⟨q, r⟩)
  refine ⟨⟨⟨hbx, htk, hz.px.len, hz.px.nx, hz.px.op, hz.px.mo, hz.px.ne⟩, hnd, Nat.le_trans hz.hb hg.size, hz.gb, hz.hA, hz.hn, hz.h40, hz.ok, fun b q => q.elim (fun q => Nat.lt_of_lt_of_le (hz.hX b (.inl q)) hg.size) (fun q => (ho.lt b q).2)⟩, ho, ?_, h.hX0, h.hb0⟩
  refine ⟨⟨hg.os.trans h.fo.fr.os, hg.tape.trans h.fo.fr.tape, hg.output.trans h.fo.fr.output, Nat.le_trans h.fo.fr.size hg.size, fun b hb hE => ?_⟩, h.fo.own⟩
  exact (hfr.block b (Nat.lt_of_lt_of_le hb h.fo.fr.size) (fun e => by have := hlow b e; omega)).trans (h.fo.fr.block b hb hE)
/-- 'places = append(places, ..)' -/
theorem rw_append {ops : Array Oper} {rest : List Oper} {o : Oper} {a : Act} {Q : Exit → Act → World → Prop} (hgd : o.guard = none) (p x : Operand)
    (ho : o.op = .call { callee := .builtin .append, args := #[p, x], argTypes := #[37, 37] }) (h : Rw X w0 V0 w base g A c ts V s v l) (hs : a.eval p = v)
    (ad : Addr) (m cc : Nat) (ms : List Int) (hx : a.eval x = .slice (some ad) m cc) (hm : m = ms.length) (hsrc : ∀ j u, (ms.map (Value.int .i64))[j]? = some u → w.cell? (ad.add j) = some u) (hlen : l.length + ms.length ≤ 1000000)
    (hk : ∀ v' w', Rw X w0 V0 w' base g A c ts V s v' (l ++ ms) → wpList Tryz.prog ops Q rest (a.put o.dst v') w') : wpList Tryz.prog ops Q (o :: rest) a w := by
  obtain ⟨i0, hi, hz0, hz1, hz2⟩ := info_parts info3
  refine wpList_plain hgd fun K hK => ?_
  refine wp_append_own2 w p x 37 ho w0.heap.size 3 i0 (.int .i64 0) 1 8 Tryz.underlying37 hi hz0 hz1 hz2 rfl (by decide) v l.length (l.map (Value.int .i64)) hs h.own ad m cc (ms.map (Value.int .i64)) hx (by rw [List.length_map, hm]; omega) hsrc ?_ (by unfold maxLen; omega) (by omega) h.fo.fr.size ?_
  · intro u hu
    obtain ⟨z, _, rfl⟩ := List.mem_map.1 hu
    rfl
  · intro v' w' h2 h3 h4
    refine hK _ _ (hk v' w' (h.grown ?_ h3 h4))
    rw [List.length_append, ← hm, List.map_append]
    exact h2
/-- .. of one value, in a new block -/
theorem rw_append1 {ops : Array Oper} {rest : List Oper} {o : Oper} {a : Act} {Q : Exit → Act → World → Prop} (hgd : o.guard = none) (p x : Operand)
    (ho : o.op = .call { callee := .builtin .append, args := #[p, x], argTypes := #[37, 37] }) (n : Int) (h : Rw X w0 V0 w base g A c ts V s v l) (hs : a.eval p = v)
    (hx : a.eval x = .slice (some ⟨w.heap.size, 0, none⟩) 1 1) (hlen : l.length ≤ 900000)
    (hk : ∀ v' w', Rw X w0 V0 w' base g A c ts V s v' (l ++ [n]) → wpList Tryz.prog ops Q rest (a.put o.dst v') w') : wpList Tryz.prog ops Q (o :: rest) a (w.alloc (.cells #[.int .i64 n] 3)) :=
  rw_append hgd p x ho (h.below (heap1 w (.cells #[.int .i64 n] 3))) hs ⟨w.heap.size, 0, none⟩ 1 1 [n] hx rfl (blk_cells w [.int .i64 n] 3) (by simp; omega) hk
/-- a step that hands back a row of places, or refuses -/
def LPost (X : Nat → Prop) (base g : Nat) (A : Option Addr) (c : Nat) (ts : List Tok) (V : Value) (w : World) (R : Rs) (e : Ending) (w' : World) : Prop :=
  NP g V w R e w' ∨ ∃ l s' V' v, R = .ok l s' ∧ e = .returned v ∧ Rw X w V w' base g A c ts V' s' v l ∧ l.length ≤ s'.nx
end
end Go.Proofs.YtdoeinjplgeadaaGreatDoor
