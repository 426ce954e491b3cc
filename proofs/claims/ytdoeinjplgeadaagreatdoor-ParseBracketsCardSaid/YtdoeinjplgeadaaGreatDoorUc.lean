/- PROVED here: tokens that differ in their places alone make answers that differ in places alone; how joined tokens, and a text behind a comment, are cut. No condition but those in each theorem's own head. -/
import Derived.Test.YtdoeinjplgeadaaGreatDoorUb
import Derived.Test.YtdoeinjplgeadaaGreatDoorTkX
import Derived.Test.YtdoeinjplgeadaaGreatDoorSe
namespace Go.Proofs.YtdoeinjplgeadaaGreatDoor.Tk
open Go Go.RowKit

def raw (t : Tok) : RTok := ⟨t.k, t.n, t.p, t.s⟩
theorem Toks.raw {w : World} {A : Option Addr} {ts : List Tok} (h : Toks w A ts) : RToks w A (ts.map raw) := fun h0 => by
  obtain ⟨b, off, e, hl, hc⟩ := h (by simpa using h0)
  refine ⟨b, off, e, hl, fun j hj => ?_⟩
  have hj' : j < ts.length := by simpa using hj
  rw [List.getElem_map]
  exact ⟨hc j hj' 0 (by decide), hc j hj' 1 (by decide), hc j hj' 2 (by decide), hc j hj' 3 (by decide)⟩
theorem rtx_raw {xs : List Tok} (hg : ∀ t ∈ xs, t.k ≠ 5) (n : Nat) : rtx ((xs ++ [endT n]).map raw) = texts xs := by
  unfold rtx texts
  rw [List.map_append, List.filter_append, List.map_append]
  have e1 : (xs.map Tk.raw).filter (fun t => t.k != 5) = xs.map Tk.raw := by
    rw [List.filter_eq_self]
    intro x hx
    obtain ⟨t, ht, rfl⟩ := List.mem_map.1 hx
    have := hg t ht
    simp only [Tk.raw, bne_iff_ne]
    omega
  rw [e1, List.map_map]
  have e2 : ([endT n].map Tk.raw).filter (fun t => t.k != 5) = [] := rfl
  rw [e2, List.map_nil, List.append_nil]
  rfl
theorem good5 {xs : List Tok} (hg : ∀ t ∈ xs, GT t) : ∀ t ∈ xs, t.k ≠ 5 := fun t ht => by
  have := (hg t ht).1
  have h2 := tokK_le (l := t.s)
  omega
theorem bulk_len {ts : List Tok} (h : ∀ t ∈ ts, GT t) : ts.length ≤ bulk ts := by
  induction ts with
  | nil => simp [bulk]
  | cons t ts ih =>
    have h1 := ih (fun x hx => h x (List.mem_cons_of_mem _ hx))
    obtain ⟨_, _, _, c, w', e, _⟩ := h t (by simp)
    unfold bulk at *
    rw [List.map_cons, List.sum_cons, e, List.length_cons, List.length_cons]
    omega
theorem join_len2 : ∀ ts : List Tok, (∀ t ∈ ts, GT t) → (Lib.join (texts ts) [32]).length ≤ 2 * bulk ts
  | [], _ => by rw [show texts [] = [] from rfl, Lib.join_nil]; simp
  | [t], _ => by rw [show texts [t] = [t.s] from rfl, Lib.join_one]; simp [bulk]; omega
  | t :: t2 :: r, hg => by
    have ih := join_len2 (t2 :: r) (fun x hx => hg x (List.mem_cons_of_mem _ hx))
    obtain ⟨_, _, _, c, w', e, _⟩ := hg t (by simp)
    have ej : Lib.join (texts (t :: t2 :: r)) [32] = t.s ++ 32 :: Lib.join (texts (t2 :: r)) [32] := join_cons2 _ _ _
    have hl : 1 ≤ t.s.length := by rw [e]; simp
    have eb : bulk (t :: t2 :: r) = t.s.length + bulk (t2 :: r) := by unfold bulk; rw [List.map_cons, List.sum_cons]
    rw [ej, List.length_append, List.length_cons, eb]
    omega
theorem joinP (A : Option Addr) (c n : Nat) (ts : List Tok) (y : ByteArray) (l : List (List UInt8)) (w : World) (hT : Toks w A ts) (hn : ts.length = n) (hr : rtx (ts.map raw) = l) (hy : bs (Lib.join l [32]) = y) (hl : n ≤ 20001) (hs : y.size ≤ 20000) :
    Calls Tryz.prog 14 #[.slice A n c] w fun e w' => e = .returned (.string y) ∧ Below w.heap.size w w' := by
  have hlen : (Lib.join l [32]).length ≤ 20000 := by have e : (bs (Lib.join l [32])).size = (Lib.join l [32]).length := rfl; rw [← hy, e] at hs; exact hs
  have := join_any A c (ts.map Tk.raw) w hT.raw (by simp; omega) (by rw [hr]; omega)
  rw [List.length_map, hn] at this
  refine this.mono ?_
  rintro e w' ⟨rfl, hb⟩
  exact ⟨by rw [hr, hy], hb⟩
/-- what is cut, without places -/
def noP : Res → Option (List (Nat × Int × List UInt8))
  | .bad _ => none
  | .ok ts => some (ts.map strip)
theorem noP_pre (t : Tok) (r : Res) : noP (r.pre [t]) = (noP r).map (strip t :: ·) := by cases r <;> rfl
theorem cutL_move : ∀ (n i j : Nat) (r : List UInt8), r.length ≤ n → noP (cutL i r) = noP (cutL j r)
  | n, i, j, [], _ => rfl
  | 0, i, j, c :: r, h => by simp at h
  | n + 1, i, j, c :: r, h => by
    have ht : r.length ≤ n := by simpa using h
    have hd := dropWhile_le (q := nlB) r
    have hp := pc_len_pos c r
    have hl : ((c :: r).drop (pc (c :: r)).length).length ≤ r.length := by rw [List.length_drop, List.length_cons]; omega
    cases h1 : spB c
    · cases h2 : cmB c
      · by_cases h3 : tokK (pc (c :: r)) = 0
        · rw [cutL_bad h1 h2 h3, cutL_bad h1 h2 h3]; rfl
        · rw [cutL_tok h1 h2 h3, cutL_tok h1 h2 h3, noP_pre, noP_pre, cutL_move n _ (j + (pc (c :: r)).length) _ (by omega)]; rfl
      · rw [cutL_cm h1 h2, cutL_cm h1 h2]; exact cutL_move n _ _ _ (by omega)
    · rw [cutL_sp h1, cutL_sp h1]; exact cutL_move n _ _ _ ht
/-- a comment, a line feed, and a text -/
theorem cut_behind (l : List UInt8) : noP (cutR ([35, 32, 120, 10] ++ l) 0) = noP (cutR l 0) := by
  rw [cutR_0, cutR_0]
  have e : [35, 32, 120, 10] ++ l = [35, 32, 120] ++ 10 :: l := rfl
  rw [e, cutL_rows l 3 0 [35, 32, 120] (Nat.le_refl _)]
  have e2 : cutL 0 [35, 32, 120] = .ok [endT 3] := by decide
  rw [e2]
  show noP ((cutL 4 l).pre []) = _
  rw [Res.pre_nil]
  exact cutL_move _ _ _ _ (Nat.le_refl _)
theorem noP_ok {r : Res} {x : List (Nat × Int × List UInt8)} (h : noP r = some x) : ∃ us, r = .ok us ∧ us.map strip = x := by
  cases r with
  | bad p => cases h
  | ok us => exact ⟨us, rfl, by injection h⟩
/-- the tokens of a text that can be cut, and what they are joined to -/
theorem cut_parts {l : List UInt8} {us : List Tok} (h : cutR l 0 = .ok us) : ∃ xs n, us = xs ++ [endT n] ∧ (∀ t ∈ xs, t.k ≠ 5) ∧ (Lib.join (texts xs) [32]).length ≤ 2 * l.length ∧ ∃ vs, cutR (Lib.join (texts xs) [32]) 0 = .ok vs ∧ vs.map strip = us.map strip := by
  rw [cutR_0] at h
  rcases cutL_form l.length 0 l (Nat.le_refl _) with ⟨xs, e, hg, hb⟩ | ⟨p, e, _, _⟩
  · rw [h] at e
    injection e with e
    obtain ⟨vs, v1, v2⟩ := cut_join xs 0 hg
    refine ⟨xs, _, e, good5 hg, by have := join_len2 xs hg; omega, _, by rw [cutR_0]; exact v1, ?_⟩
    rw [e, List.map_append, List.map_append, v2]; rfl
  · rw [h] at e; cases e
end Go.Proofs.YtdoeinjplgeadaaGreatDoor.Tk
namespace Go.Proofs.YtdoeinjplgeadaaGreatDoor
open Go Go.RowKit

theorem er_cvT {us us' : List Tk.Tok} (h : us.map Tk.strip = us'.map Tk.strip) : (us.map cvT).map erT = (us'.map cvT).map erT := by
  have e : ∀ xs : List Tk.Tok, (xs.map cvT).map erT = (xs.map Tk.strip).map (fun x => (⟨x.1, x.2.1, 0, x.2.2⟩ : Tok)) := fun xs => by
    rw [List.map_map, List.map_map]; rfl
  rw [e, e, h]
theorem likeN_of {nd nd' : List Nd} (h : nd.map erN = nd'.map erN) : LikeN (nd.map cvN) (nd'.map cvN) := by
  unfold LikeN
  have e : ∀ xs : List Nd, (xs.map cvN).map (fun x => (x.kd, x.n, x.tx, x.ks)) = (xs.map erN).map (fun x => (x.kd, x.n, bs x.tx, x.ks)) := fun xs => by
    rw [List.map_map, List.map_map]; rfl
  rw [e, e, h]
theorem LikeN.ks {l m : List Tr.Nd} (h : LikeN l m) : l.map Tr.Nd.ks = m.map Tr.Nd.ks := by
  have := congrArg (List.map fun x : Int × Int × ByteArray × List Int => x.2.2.2) h
  rw [List.map_map, List.map_map] at this
  exact this
theorem LikeN.len {l m : List Tr.Nd} (h : LikeN l m) : l.length = m.length := by have := congrArg List.length h; simpa using this
theorem LikeN.kids {l m : List Tr.Nd} (h : LikeN l m) (p : Nat) : Tr.kidsAt l p = Tr.kidsAt m p := by unfold Tr.kidsAt; rw [h.ks]
theorem LikeN.dpL {l m : List Tr.Nd} (h : LikeN l m) : ∀ n, Tr.dpL l n = Tr.dpL m n
  | 0 => rfl
  | n + 1 => by simp only [Tr.dpL]; rw [h.dpL n, h.kids]
theorem LikeN.snd {l m : List Tr.Nd} (h : LikeN l m) {r : Int} (q : Tr.Snd l r) : Tr.Snd m r := by
  obtain ⟨b, h1, h2, h3, h4, h5⟩ := q
  refine ⟨b, by rw [← h.len]; exact h1, by rw [← h.len]; exact h2, by rw [← h.len]; exact h3, ?_, by rw [← h.len]; exact h5⟩
  rw [← h.len]
  intro p hp
  rw [← h.kids]; exact h4 p hp
theorem LikeN.symm {l m : List Tr.Nd} (h : LikeN l m) : LikeN m l := Eq.symm h
theorem LikeN.dpt {l m : List Tr.Nd} (h : LikeN l m) (r : Int) : Tr.dpt l r = Tr.dpt m r := by
  by_cases q : Tr.Snd l r
  · rw [Tr.dpt_yes q, Tr.dpt_yes (h.snd q), h.len, h.dpL]
  · rw [Tr.dpt_no q, Tr.dpt_no (fun z => q (h.symm.snd z))]
/-- answers that are the same but for places -/
inductive LikeA : Ans → Ans → Prop
  | bad (p p' e : Nat) : LikeA (.bad p e) (.bad p' e)
  | good (nd nd' : List Nd) (k : Nat) (h : nd.map erN = nd'.map erN) : LikeA (.good nd k) (.good nd' k)
theorem ans_like {R : List Tok → Rs} (hR : ∀ ts us : List Tok, ts.map erT = us.map erT → erR (R ts) = erR (R us)) {l l' : List UInt8} {us us' : List Tk.Tok} (hc : Tk.cutR l 0 = .ok us) (hc' : Tk.cutR l' 0 = .ok us') (h : us.map Tk.strip = us'.map Tk.strip) : LikeA (ansOf R l) (ansOf R l') := by
  have h1 := hR _ _ (er_cvT h)
  cases e1 : R (us.map cvT) with
  | out =>
    cases e2 : R (us'.map cvT) with
    | out =>
      have a1 : ansOf R l = .bad 0 0 := by unfold ansOf; rw [hc]; simp only [e1]
      have a2 : ansOf R l' = .bad 0 0 := by unfold ansOf; rw [hc']; simp only [e2]
      rw [a1, a2]; exact .bad _ _ _
    | no p e => rw [e1, e2] at h1; cases h1
    | ok v s => rw [e1, e2] at h1; cases h1
  | no p e =>
    cases e2 : R (us'.map cvT) with
    | out => rw [e1, e2] at h1; cases h1
    | no p' e' =>
      rw [e1, e2] at h1
      injection h1 with _ h1
      subst h1
      rw [ansOf_no hc e1, ansOf_no hc' e2]; exact .bad _ _ _
    | ok v s => rw [e1, e2] at h1; cases h1
  | ok v s =>
    cases e2 : R (us'.map cvT) with
    | out => rw [e1, e2] at h1; cases h1
    | no p e => rw [e1, e2] at h1; cases h1
    | ok v' s' =>
      rw [e1, e2] at h1
      injection h1 with _ h1
      have hn : s.nd.map erN = s'.nd.map erN := congrArg St.nd h1
      have hm0 : (erS s).mo = (erS s').mo := congrArg St.mo h1
      have hm : s.mo = s'.mo := hm0
      have hl : s.nd.length = s'.nd.length := by have := congrArg List.length hn; simpa using this
      rw [ansOf_ok hc e1, ansOf_ok hc' e2, hl, (likeN_of hn).dpt, hm]
      split
      · exact .bad _ _ _
      · split
        · exact .bad _ _ _
        · exact .good _ _ _ hn
/-- a tree, and an error: what Program and Expr answer, but for the place -/
def WT (l : List Tr.Nd) (n : Nat) (r er : Int) (w : World) (e : Ending) (w' : World) : Prop := ∃ A c p, e = .returned (.tuple #[.agg #[.slice A n c, .int .i64 r], .int .i64 p, .int .i64 er]) ∧ Below w.heap.size w w' ∧ Tr.Nds w' A l
theorem LikeA.trees {a a' a'' : Ans} (h : LikeA a a') (h' : LikeA a a'') : ∃ (l l' l'' : List Tr.Nd) (n : Nat) (r er : Int), n = l.length ∧ LikeN l l' ∧ LikeN l l'' ∧
    (∀ w e w', TreePost a w e w' → WT l n r er w e w') ∧ (∀ w e w', TreePost a' w e w' → WT l' n r er w e w') ∧ (∀ w e w', TreePost a'' w e w' → WT l'' n r er w e w') ∧ ((∃ nd k, a = .good nd k ∧ l = nd.map cvN) ∨ l = []) := by
  have hb : ∀ (p e0 : Nat) w e w', TreePost (.bad p e0) w e w' → WT [] 0 0 e0 w e w' := by
    rintro p e0 w e w' ⟨A, n, c, r, m, p', er', rfl, hb, rfl, rfl, rfl, rfl, rfl, rfl, rfl⟩
    exact ⟨_, _, _, rfl, hb, fun h0 => absurd h0 (Nat.lt_irrefl _)⟩
  have hg : ∀ (nd : List Nd) (k n : Nat) w e w', n = nd.length → TreePost (.good nd k) w e w' → WT (nd.map cvN) n ((n : Int) - 1) 0 w e w' := by
    rintro nd k n0 w e w' rfl ⟨A, n, c, r, m, p', er', rfl, hb, rfl, rfl, rfl, rfl, rfl, hN⟩
    exact ⟨_, _, _, rfl, hb, hN.nds⟩
  cases h with
  | bad p p' e =>
    cases h' with
    | bad _ p'' _ => exact ⟨[], [], [], 0, 0, e, rfl, rfl, rfl, hb _ _, hb _ _, hb _ _, .inr rfl⟩
  | good nd nd' k h =>
    cases h' with
    | good _ nd'' _ h' =>
      have l1 : nd.length = nd'.length := by have := congrArg List.length h; simpa using this
      have l2 : nd.length = nd''.length := by have := congrArg List.length h'; simpa using this
      exact ⟨_, _, _, nd.length, _, _, by rw [List.length_map], likeN_of h, likeN_of h', (fun w e w' => hg _ _ _ w e w' rfl), (fun w e w' => hg _ _ _ w e w' l1), (fun w e w' => hg _ _ _ w e w' l2), .inl ⟨nd, k, rfl, rfl⟩⟩
end Go.Proofs.YtdoeinjplgeadaaGreatDoor
