/- PROVED here: the parser's world, whole: what stays as it was from step to step; its steps in these words. No condition but those in each theorem's own head. -/
import Derived.Test.YtdoeinjplgeadaaGreatDoorPj
import Derived.Test.YtdoeinjplgeadaaGreatDoorPn
namespace Go.Proofs.YtdoeinjplgeadaaGreatDoor
open Go Go.RowKit
open Tr (Bx heap1 bt gen_world ret_int ret_bool cell_same)

theorem Fr.mono {E E' : Nat → Prop} {w w' : World} (h : Fr E w w') (k : ∀ b, E b → E' b) : Fr E' w w' := ⟨h.os, h.tape, h.output, h.size, fun b hb hE => h.block b hb (fun e => hE (k b e))⟩
/-- the nodes behind a step that turns the box alone -/
theorem Nodes.fr {X : Nat → Prop} {w w' : World} {base g : Nat} {V : Value} {nd : List Nd} {l : List Value} (h : Nodes w X base V nd) (k : Fr (fun b => b = g) w w') (hg : Bx w g 70 l) (hgb : g < base) : Nodes w' X base V nd := by
  obtain ⟨xs, h1, h2⟩ := h
  refine ⟨xs, own_fr h1 k (fun b e => by omega), fun j hj => ?_⟩
  obtain ⟨K, c, e, hk⟩ := h2 j hj
  refine ⟨K, c, e, hk.fr k (fun b cs hb e => ?_)⟩
  subst e
  have := hb.symm.trans hg
  simp at this
/-- the parser's own blocks: its box, its row of nodes -/
def PE (g : Nat) (V : Value) (b : Nat) : Prop := b = g ∨ V.ownBlock = some b
/-- from one world to a later one: only the parser's own blocks have turned -/
structure Fo (w w' : World) (g : Nat) (V V' : Value) : Prop where
  fr : Fr (PE g V) w w'
  own : ∀ b, V'.ownBlock = some b → V.ownBlock = some b ∨ w.heap.size ≤ b
theorem Fo.refl (w : World) (g : Nat) (V : Value) : Fo w w g V V := ⟨Fr.refl _ _, fun _ h => .inl h⟩
theorem Fo.below {w w' : World} {g : Nat} {V : Value} (h : Below w.heap.size w w') : Fo w w' g V V := ⟨Fr.of h, fun _ h => .inl h⟩
theorem Fo.box {w w' : World} {g : Nat} {V : Value} (h : Fr (fun b => b = g) w w') : Fo w w' g V V := ⟨h.mono (fun _ e => .inl e), fun _ h => .inl h⟩
theorem Fo.trans {a b c : World} {g : Nat} {V V1 V2 : Value} (h : Fo a b g V V1) (k : Fo b c g V1 V2) : Fo a c g V V2 :=
  ⟨⟨k.fr.os.trans h.fr.os, k.fr.tape.trans h.fr.tape, k.fr.output.trans h.fr.output, Nat.le_trans h.fr.size k.fr.size, fun i hi hE => (k.fr.block i (Nat.lt_of_lt_of_le hi h.fr.size) (fun e => hE (e.elim .inl (fun q => (h.own i q).elim .inr (fun q => by omega))))).trans (h.fr.block i hi hE)⟩,
    fun i hi => (k.own i hi).elim (h.own i) (fun q => .inr (Nat.le_trans h.fr.size q))⟩
theorem Fo.bx {w w' : World} {g b : Nat} {V V' : Value} {t : TypeId} {l : List Value} (k : Fo w w' g V V') (h : Bx w b t l) (hg : b ≠ g) (hV : V.ownBlock ≠ some b) : Bx w' b t l ∧ V'.ownBlock ≠ some b :=
  ⟨Bx.fr h k.fr (fun e => e.elim hg hV), fun e => (k.own b e).elim hV (fun q => by have := h.lt; omega)⟩
/-- the parser, all of it: its box, its nodes, whose kids lie in none of the blocks X -/
structure Pz (X : Nat → Prop) (w : World) (base g : Nat) (A : Option Addr) (c : Nat) (ts : List Tok) (V : Value) (s : St) : Prop where
  px : Px w g A c ts V s
  nd : Nodes w X base V s.nd
  hb : base ≤ w.heap.size
  gb : g < base
  hA : ∀ a, A = some a → a.block < base
  hn : s.nd.length ≤ s.nx
  h40 : s.op ≤ 40 ∧ s.mo ≤ 40
  ok : TsOk ts
  hX : ∀ b, X b → b < w.heap.size
section
variable {X : Nat → Prop} {w w' : World} {base g c : Nat} {A : Option Addr} {ts : List Tok} {V V' : Value} {s s' : St}
theorem Pz.move (h : Pz X w base g A c ts V s) (hF : Fr (fun b => b = g) w w') (hx : Px w' g A c ts V s') (hnd : s'.nd = s.nd) (hnx : s.nx ≤ s'.nx) (h40 : s'.op ≤ 40 ∧ s'.mo ≤ 40) : Pz X w' base g A c ts V s' :=
  ⟨hx, by rw [hnd]; exact h.nd.fr hF h.px.box h.gb, Nat.le_trans h.hb hF.size, h.gb, h.hA, by rw [hnd]; exact Nat.le_trans h.hn hnx, h40, h.ok, fun b hb => Nat.lt_of_lt_of_le (h.hX b hb) hF.size⟩
theorem Pz.below (h : Pz X w base g A c ts V s) (hb : Below w.heap.size w w') : Pz X w' base g A c ts V s := h.move (Fr.of hb) (h.px.below hb) rfl (Nat.le_refl _) h.h40
theorem Pz.lt (h : Pz X w base g A c ts V s) : g < w.heap.size := Nat.lt_of_lt_of_le h.gb h.hb
theorem Pz.own (h : Pz X w base g A c ts V s) : V.ownBlock ≠ some w.heap.size := fun e => by
  obtain ⟨xs, ho, _⟩ := h.nd
  have := (ho.lt _ e).2
  omega
/-- a new block: none of the parser's -/
theorem Pz.new (h : Pz X w base g A c ts V s) : w.heap.size ≠ g ∧ V.ownBlock ≠ some w.heap.size := ⟨by have := h.lt; omega, h.own⟩
theorem Pz.len (h : Pz X w base g A c ts V s) : s.nx < ts.length ∧ ts.length ≤ 100000 := ⟨h.px.nx, h.px.len⟩
/-- a step refuses -/
def NP (g : Nat) (V : Value) (w : World) (R : Rs) (e : Ending) (w' : World) : Prop := ∃ p er, R = .no p er ∧ e = .panicked [{ v := refV p (er : Int), recovered := false }] ∧ Fr (PE g V) w w'
/-- a step that hands back one value and turns the box alone, or refuses -/
def EPost (X : Nat → Prop) (base g : Nat) (A : Option Addr) (c : Nat) (ts : List Tok) (V v : Value) (w : World) (R : Rs) (e : Ending) (w' : World) : Prop :=
  NP g V w R e w' ∨ ∃ s', R = .ok [] s' ∧ e = .returned v ∧ Pz X w' base g A c ts V s' ∧ Fo w w' g V V
/-- a step that hands back a node's place, or refuses -/
def IPost (X : Nat → Prop) (base g : Nat) (A : Option Addr) (c : Nat) (ts : List Tok) (V : Value) (w : World) (R : Rs) (e : Ending) (w' : World) : Prop :=
  NP g V w R e w' ∨ ∃ x s' V', R = .ok [x] s' ∧ e = .returned (.int .i64 x) ∧ Pz X w' base g A c ts V' s' ∧ Fo w w' g V V'
theorem NP.of {p q : Nat} {er : Int} {e : Ending} {R : Rs} (h : NPost p er w e w') (hq : er = (q : Int)) (hR : R = .no p q) : NP g V w R e w' := ⟨p, q, hR, by rw [← hq]; exact h.1, Fr.of h.2⟩
theorem Rs.step {R r : Rs} {f : List Int → St → Rs} {v : List Int} {s' : St} (HR : R = r.bind f) (hr : r = .ok v s') : R = f v s' := by rw [HR, hr]; rfl
theorem Rs.step_no {R r : Rs} {f : List Int → St → Rs} {p e : Nat} (HR : R = r.bind f) (hr : r = .no p e) : R = .no p e := by rw [HR, hr]; rfl
theorem Rs.step_in {R r : Rs} {f : List Int → St → Rs} (HR : R = r.bind f) (hne : R ≠ .out) : r ≠ .out := Rs.bind_in (f := f) (by rw [← HR]; exact hne)
theorem token_z (h : Pz X w base g A c ts V s) : Calls Tryz.prog 72 #[.pointer (some ⟨g, 0, none⟩)] w (VPost (tokV (tkn ts s)) w) := token_any h.px
theorem sees_z (h : Pz X w base g A c ts V s) (x : List UInt8) : Calls Tryz.prog 41 #[.pointer (some ⟨g, 0, none⟩), .string (bs x)] w (VPost (.bool (sees ts x s)) w) := sees_any x h.px
/-- a token is taken -/
def TPost (X : Nat → Prop) (base g : Nat) (A : Option Addr) (c : Nat) (ts : List Tok) (V v : Value) (s' : St) (w : World) (e : Ending) (w' : World) : Prop := e = .returned v ∧ Pz X w' base g A c ts V s' ∧ Fo w w' g V V
theorem take_z (h : Pz X w base g A c ts V s) (hs : (tkn ts s).k ≠ 5 ∨ (tkn ts s).s ≠ []) : Calls Tryz.prog 69 #[.pointer (some ⟨g, 0, none⟩)] w (TPost X base g A c ts V (tokV (tkn ts s)) (takeS s) w) := by
  have hn : s.nx + 1 < ts.length := hs.elim (h.ok.moreK h.px.nx) (h.ok.more h.px.nx)
  exact (take_any h.px hn).mono fun e w' ⟨he, hx, hF⟩ => ⟨he, h.move hF hx rfl (Nat.le_succ _) h.h40, Fo.box hF⟩
theorem expect_z (h : Pz X w base g A c ts V s) (x : List UInt8) (hx : x ≠ []) : Calls Tryz.prog 71 #[.pointer (some ⟨g, 0, none⟩), .string (bs x)] w (EPost X base g A c ts V (tokV (tkn ts s)) w (expM ts x s)) := by
  cases hs : sees ts x s with
  | false => exact (expect_no x h.px hs).mono fun e w' q => .inl (NP.of q (q := 2) rfl (by unfold expM; rw [hs]; rfl))
  | true =>
    have e1 : (tkn ts s).s = x := by simpa [sees] using hs
    exact (expect_yes x h.px hs (h.ok.more h.px.nx (by rw [e1]; exact hx))).mono fun e w' ⟨he, hx, hF⟩ => .inr ⟨takeS s, by unfold expM; rw [if_pos hs], he, h.move hF hx rfl (Nat.le_succ _) h.h40, Fo.box hF⟩
theorem name_z (h : Pz X w base g A c ts V s) : Calls Tryz.prog 73 #[.pointer (some ⟨g, 0, none⟩)] w (EPost X base g A c ts V (tokV (tkn ts s)) w (nameM ts s)) := by
  by_cases hs : (tkn ts s).k = 1
  · exact (name_yes h.px hs (h.ok.moreK h.px.nx (by rw [hs]; decide))).mono fun e w' ⟨he, hx, hF⟩ => .inr ⟨takeS s, by unfold nameM; rw [if_pos hs], he, h.move hF hx rfl (Nat.le_succ _) h.h40, Fo.box hF⟩
  · exact (name_no h.px hs).mono fun e w' q => .inl (NP.of q (q := 2) rfl (by unfold nameM; rw [if_neg hs]))
theorem end_z (h : Pz X w base g A c ts V s) : Calls Tryz.prog 43 #[.pointer (some ⟨g, 0, none⟩)] w (EPost X base g A c ts V (.tuple #[]) w (endM ts s)) := by
  by_cases hs : (tkn ts s).k = 5
  · exact (end_yes h.px hs).mono fun e w' ⟨he, hb⟩ => .inr ⟨s, by unfold endM; rw [if_pos hs], he, h.below hb, Fo.below hb⟩
  · exact (end_no h.px hs).mono fun e w' q => .inl (NP.of q (q := 2) rfl (by unfold endM; rw [if_neg hs]))
theorem begin_z (h : Pz X w base g A c ts V s) (x : List UInt8) (hx : x ≠ []) : Calls Tryz.prog 77 #[.pointer (some ⟨g, 0, none⟩), .string (bs x)] w (EPost X base g A c ts V (tokV (tkn ts s)) w (begM ts x s)) := by
  cases hs : sees ts x s with
  | false => exact (begin_no x h.px hs).mono fun e w' q => .inl (NP.of q (q := 2) rfl (by unfold begM expM; rw [hs]; rfl))
  | true =>
    by_cases ho : s.op = 40
    · exact (begin_deep x h.px hs ho).mono fun e w' q => .inl (NP.of q (q := 6) rfl (by unfold begM; rw [if_pos ⟨hs, ho⟩]))
    · have e1 : (tkn ts s).s = x := by simpa [sees] using hs
      have h40 := h.h40
      exact (begin_yes x h.px hs (h.ok.more h.px.nx (by rw [e1]; exact hx)) (by omega) h40.2).mono fun e w' ⟨he, hx, hF⟩ => .inr ⟨_, by unfold begM expM; rw [if_neg (fun q => ho q.2), if_pos hs]; rfl, he, h.move hF hx rfl (Nat.le_succ _) (by show s.op + 1 ≤ 40 ∧ max s.mo (s.op + 1) ≤ 40; omega), Fo.box hF⟩
theorem finish_z (h : Pz X w base g A c ts V s) (x : List UInt8) (hx : x ≠ []) (ho : 1 ≤ s.op) : Calls Tryz.prog 117 #[.pointer (some ⟨g, 0, none⟩), .string (bs x)] w (EPost X base g A c ts V (.tuple #[]) w (finM ts x s)) := by
  cases hs : sees ts x s with
  | false => exact (finish_no x h.px hs).mono fun e w' q => .inl (NP.of q (q := 2) rfl (by unfold finM expM; rw [hs]; rfl))
  | true =>
    have e1 : (tkn ts s).s = x := by simpa [sees] using hs
    have h40 := h.h40
    exact (finish_yes x h.px hs (h.ok.more h.px.nx (by rw [e1]; exact hx)) ho).mono fun e w' ⟨he, hx, hF⟩ => .inr ⟨_, by unfold finM expM; rw [if_pos hs]; rfl, he, h.move hF hx rfl (Nat.le_succ _) (by show s.op - 1 ≤ 40 ∧ s.mo ≤ 40; omega), Fo.box hF⟩
theorem typeWord_z (h : Pz X w base g A c ts V s) : Calls Tryz.prog 76 #[.pointer (some ⟨g, 0, none⟩)] w (IPost X base g A c ts V w (typeM ts s)) := by
  by_cases hs : typeOf (tkn ts s).s = 0
  · exact (typeWord_no h.px hs).mono fun e w' q => .inl (NP.of q (q := 2) rfl (by unfold typeM; simp only; rw [if_pos hs]))
  · exact (typeWord_yes h.px hs (h.ok.more h.px.nx (fun e => hs (by rw [e]; decide)))).mono fun e w' ⟨he, hx, hF⟩ => .inr ⟨_, takeS s, V, by unfold typeM; simp only; rw [if_neg hs], he, h.move hF hx rfl (Nat.le_succ _) h.h40, Fo.box hF⟩
theorem refuse_z (h : Pz X w base g A c ts V s) (er : Int) : Calls Tryz.prog 79 #[.pointer (some ⟨g, 0, none⟩), .int .i64 er] w (VPost (.agg #[.int .i64 ((tkn ts s).p : Int), .int .i64 er]) w) := refuse_any er h.px
/-- a new block of ints: kids of a node -/
theorem kd_new (hX : ∀ b, X b → b < w.heap.size) (ks : List Int) : Kd (w.alloc (.cells (ks.map (Value.int .i64)).toArray 3)) X (some ⟨w.heap.size, 0, none⟩) ks := fun h0 =>
  ⟨w.heap.size, _, rfl, World.alloc_heap_new _ _, fun j hj => by simp [hj], fun q => by have := hX _ q; omega⟩
theorem kd_nil (w : World) (K : Option Addr) : Kd w X K [] := fun h0 => absurd h0 (by simp)
/-- a node more -/
theorem add_z (h : Pz X w base g A c ts V s) (kd nn pl : Int) (tx : List UInt8) (K0 KK : Option Addr) (n0 c0 kn kc : Nat) (ks : List Int) (hK : Kd w X KK ks) (hkn : kn = ks.length) {s0 : St} {R : Rs} (HR : R = .ok [(s.nd.length : Int)] { s with nd := s.nd ++ [⟨kd, nn, pl, tx, ks⟩] }) (hk : Nk s0 0 R) (h0 : s0.nd.length ≤ s0.nx) :
    Calls Tryz.prog 44 #[.pointer (some ⟨g, 0, none⟩), .agg #[.int .i64 kd, .int .i64 nn, .int .i64 pl, .string (bs tx), .slice K0 n0 c0], .slice KK kn kc] w (IPost X base g A c ts V w R) := by
  have hl := h.px.len
  have hx := h.px.nx
  have hn := h.hn
  have hq := (hk _ _ HR).1.1
  refine (add_any h.px h.nd kd nn pl tx K0 KK n0 c0 kn kc ks hK hkn h.hb h.gb h.hA (by omega)).mono ?_
  rintro e w' ⟨V', rfl, hX, hN, hF, hO⟩
  refine .inr ⟨_, _, V', HR, rfl, ⟨hX, hN, Nat.le_trans h.hb hF.size, h.gb, h.hA, ?_, h.h40, h.ok, fun b hb => Nat.lt_of_lt_of_le (h.hX b hb) hF.size⟩, ⟨hF, hO⟩⟩
  simp only [List.length_append, List.length_cons, List.length_nil] at hq ⊢
  omega
theorem IPost.after {w0 w1 : World} {V0 V1 : Value} {R : Rs} {e : Ending} (f : Fo w0 w1 g V0 V1) (h : IPost X base g A c ts V1 w1 R e w') : IPost X base g A c ts V0 w0 R e w' := by
  rcases h with ⟨p, er, hr, he, hF⟩ | ⟨x, s', V', hr, he, hz, hF⟩
  · exact .inl ⟨p, er, hr, he, (f.trans ⟨hF, fun _ h => .inl h⟩).fr⟩
  · exact .inr ⟨x, s', V', hr, he, hz, f.trans hF⟩
theorem np_after {w0 w1 : World} {V0 V1 : Value} {R : Rs} {p er : Nat} (f : Fo w0 w1 g V0 V1) (hr : R = .no p er) (hF : Fr (PE g V1) w1 w') : NP g V0 w0 R (.panicked [{ v := refV p (er : Int), recovered := false }]) w' := ⟨p, er, hr, rfl, (f.trans ⟨hF, fun _ h => .inl h⟩).fr⟩
end
end Go.Proofs.YtdoeinjplgeadaaGreatDoor
