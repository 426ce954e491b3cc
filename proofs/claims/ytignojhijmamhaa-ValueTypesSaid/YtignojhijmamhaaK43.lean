/- PROVED here: parts Ek of the claim. No condition but those in each theorem's own head. -/
import Derived.Test.YtignojhijmamhaaK42
namespace Go.Proofs.Ytignojhijmamhaa
open Go Go.RowKit Go.Sort
open Va (unR binR getV lenH tB wrongH numR truR cmpR optT divR)
open Ty (tpT pcT chkT typA vrT sgnT dnA ndA decB dcF optZ owA fstA_some dcB eff)
open Ty.Tr (Nd rgB)
def ErrOk (R : (Int × Int) × Int) : Prop := R.2 ≠ 0 → (1 ≤ R.2 ∧ R.2 ≤ 3) ∧ R.1 = (0, 0)
theorem errOk_zero {v : Int × Int} : ErrOk (v, 0) := fun h => absurd rfl h
theorem getV_ok (L : List (List Int)) (k n j i : Int) : ErrOk (getV L k n j i) ∧ ((getV L k n j i).2 = 0 → (getV L k n j i).1.1 = 1) := by
  unfold getV
  by_cases h : wrongH L k n j i = 0
  · rw [if_pos h]; exact ⟨errOk_zero, fun _ => rfl⟩
  · rw [if_neg h]
    refine ⟨fun _ => ⟨?_, rfl⟩, fun e => absurd e h⟩
    show 1 ≤ wrongH L k n j i ∧ wrongH L k n j i ≤ 3
    revert h
    unfold wrongH
    split
    · split <;> intro h <;> omega
    · intro _; omega
theorem unR_ok {s : ByteArray} {k n : Int} (h : (unR s k n).2 = true) : (unR s k n).1.1 = sgnT s := by
  revert h
  unfold unR
  by_cases h1 : s = ⟨#[45]⟩ ∧ k = 1
  · rw [if_pos h1]; intro _; unfold sgnT; rw [if_pos (.inr (.inl h1.1))]
  · rw [if_neg h1]
    by_cases h2 : s = ⟨#[33]⟩ ∧ k = 2
    · rw [if_pos h2]; intro _; rw [h2.1]; rfl
    · rw [if_neg h2]; intro h; cases h
theorem optT_kind {o : Option Bool} (h : (optT o).2.2 = true) : (optT o).1.1 = 2 ∧ (optT o).2.1 = 0 := by
  cases o with
  | none => cases h
  | some t => exact ⟨rfl, rfl⟩
theorem optT_err {o : Option Bool} : (optT o).2.1 = 0 := by cases o <;> rfl
theorem divR_ok (q b : Int) : ErrOk ((divR q b).1, (divR q b).2.1) ∧ ((divR q b).2.1 = 0 → (divR q b).1.1 = 1) := by
  unfold divR
  by_cases h : b = 0
  · rw [if_pos h]; exact ⟨fun _ => ⟨by decide, rfl⟩, fun e => by cases e⟩
  · rw [if_neg h]; exact ⟨errOk_zero, fun _ => rfl⟩
theorem binR_ok (s : ByteArray) (k1 n1 k2 n2 : Int) : ErrOk ((binR s k1 n1 k2 n2).1, (binR s k1 n1 k2 n2).2.1) ∧ ((binR s k1 n1 k2 n2).2.2 = true → (binR s k1 n1 k2 n2).2.1 = 0 → (binR s k1 n1 k2 n2).1.1 = sgnT s) := by
  unfold binR
  by_cases h : k1 = 1 ∧ k2 = 1
  · rw [if_pos h]
    unfold numR
    by_cases a1 : s = ⟨#[43]⟩
    · rw [if_pos a1]; exact ⟨errOk_zero, fun _ _ => by unfold sgnT; rw [if_pos (.inl a1)]⟩
    rw [if_neg a1]
    by_cases a2 : s = ⟨#[45]⟩
    · rw [if_pos a2]; exact ⟨errOk_zero, fun _ _ => by unfold sgnT; rw [if_pos (.inr (.inl a2))]⟩
    rw [if_neg a2]
    by_cases a3 : s = ⟨#[42]⟩
    · rw [if_pos a3]; exact ⟨errOk_zero, fun _ _ => by unfold sgnT; rw [if_pos (.inr (.inr (.inl a3)))]⟩
    rw [if_neg a3]
    by_cases a4 : s = ⟨#[47]⟩
    · rw [if_pos a4]
      have q := divR_ok (wrap64 (n1.tdiv n2)) n2
      exact ⟨q.1, fun _ e => by rw [q.2 e]; unfold sgnT; rw [if_pos (.inr (.inr (.inr (.inl a4))))]⟩
    rw [if_neg a4]
    by_cases a5 : s = ⟨#[37]⟩
    · rw [if_pos a5]
      have q := divR_ok (n1.tmod n2) n2
      exact ⟨q.1, fun _ e => by rw [q.2 e]; unfold sgnT; rw [if_pos (.inr (.inr (.inr (.inr a5))))]⟩
    rw [if_neg a5]
    refine ⟨fun e => absurd optT_err e, fun h _ => ?_⟩
    rw [(optT_kind h).1]; unfold sgnT; rw [if_neg (fun h => by rcases h with h | h | h | h | h <;> contradiction)]
  · rw [if_neg h]
    by_cases h2 : k1 = 2 ∧ k2 = 2
    · rw [if_pos h2]
      refine ⟨fun e => absurd optT_err e, fun h _ => ?_⟩
      rw [(optT_kind h).1]
      unfold sgnT
      rw [if_neg]
      intro e
      have hn : truR s (n1 != 0) (n2 != 0) = none := by
        rcases e with e | e | e | e | e <;> (subst e; unfold truR; rw [if_neg (by decide), if_neg (by decide), if_neg (by decide), if_neg (by decide)])
      rw [hn] at h
      cases h
    · rw [if_neg h2]; exact ⟨errOk_zero, fun h => by cases h⟩
section
variable {l : List Nd} {r : Int} {ns : List NV} {L : List (List Int)}
theorem mdV_ok (p : Nat) (q : Nd) (k1 n1 k2 n2 : Int) : ErrOk (mdV l r ns L p q k1 n1 k2 n2) := by
  unfold mdV
  by_cases h1 : q.kd = 20
  · rw [if_pos h1]; exact errOk_zero
  rw [if_neg h1]
  by_cases h2 : q.kd = 21
  · rw [if_pos h2]; exact errOk_zero
  rw [if_neg h2]
  by_cases h3 : q.kd = 22
  · rw [if_pos h3]; exact errOk_zero
  rw [if_neg h3]
  by_cases h4 : q.kd = 23
  · rw [if_pos h4]; exact (getV_ok _ _ _ _ _).1
  rw [if_neg h4]
  by_cases h5 : q.kd = 24
  · rw [if_pos h5]; exact errOk_zero
  rw [if_neg h5]
  by_cases h6 : q.kd = 25
  · rw [if_pos h6]; exact errOk_zero
  rw [if_neg h6]
  unfold opV
  by_cases h7 : q.kd = 26
  · rw [if_pos h7]; split <;> exact errOk_zero
  rw [if_neg h7]
  by_cases h8 : (binR q.tx k1 n1 k2 n2).2.2 = true
  · rw [if_pos h8]; exact (binR_ok _ _ _ _ _).1
  · rw [if_neg h8]; exact errOk_zero
theorem kidV_ok {ev : Nat → (Int × Int) × Int} (h : ∀ k, ErrOk (ev k)) : ∀ (ks : List Int) (e : Int), kidV ev ks = .inr e → 1 ≤ e ∧ e ≤ 3
  | [], e, q => by cases q
  | k :: rr, e, q => by
    unfold kidV at q
    by_cases he : (ev k.toNat).2 = 0
    · rw [if_pos he] at q
      cases hq : kidV ev rr with
      | inl vs => rw [hq] at q; cases q
      | inr e' => rw [hq] at q; injection q with q; subst q; exact kidV_ok h rr e' hq
    · rw [if_neg he] at q
      injection q with q
      subst q
      exact (h k.toNat he).1
theorem evV_ok : ∀ (f p : Nat), ErrOk (evV l r ns L f p)
  | 0, _ => errOk_zero
  | f + 1, p => by
    rw [evV]
    cases hk : kidV (evV l r ns L f) (Ty.Tr.nth l p).ks with
    | inl vs => exact mdV_ok _ _ _ _ _ _
    | inr e => exact fun _ => ⟨kidV_ok (evV_ok f) _ e hk, rfl⟩
def NsOk (l : List Nd) (p : Nat) (ns : List NV) : Prop := (named ns (ndA l p).tx).1 = vrT l p
theorem mdV_kind {p : Nat} (hp : p < l.length) (he : eff l r = l) (hn : NsOk l p ns) (h1 : 20 ≤ (ndA l p).kd) (h2 : (ndA l p).kd ≤ 27) (k1 n1 k2 n2 : Int) (h0 : (mdV l r ns L p (ndA l p) k1 n1 k2 n2).2 = 0) : (mdV l r ns L p (ndA l p) k1 n1 k2 n2).1.1 = typA l p := by
  have ht : tpT l r (p : Int) = typA l p := by unfold tpT; rw [he, if_pos ⟨by omega, by omega⟩, Int.toNat_natCast]
  unfold NsOk at hn
  revert h0
  unfold mdV
  unfold typA
  rcases (show (ndA l p).kd = 20 ∨ (ndA l p).kd = 21 ∨ (ndA l p).kd = 22 ∨ (ndA l p).kd = 23 ∨ (ndA l p).kd = 24 ∨ (ndA l p).kd = 25 ∨ (ndA l p).kd = 26 ∨ (ndA l p).kd = 27 by omega) with e | e | e | e | e | e | e | e
  · simp [e]
  · simp [e]
  · simp [e, hn]
  · simp only [e]
    intro h0
    have := (getV_ok L (named ns (ndA l p).tx).1 (named ns (ndA l p).tx).2 k1 n1).2
    simp at h0 ⊢
    exact this h0
  · simp [e]
  · simp [e]
  · have hs : typA l p = sgnT (ndA l p).tx := by unfold typA; simp [e]
    rw [hs] at ht
    simp only [e]
    unfold opV
    simp only [e]
    by_cases h8 : (unR (ndA l p).tx k1 n1).2 = true
    · simp [h8, unR_ok h8]
    · simp [h8, ht]
  · have hs : typA l p = sgnT (ndA l p).tx := by unfold typA; simp [e]
    rw [hs] at ht
    simp only [e]
    unfold opV
    simp only [e]
    have hb := (binR_ok (ndA l p).tx k1 n1 k2 n2).2
    by_cases h8 : (binR (ndA l p).tx k1 n1 k2 n2).2.2 = true
    · simp [h8]; exact hb h8
    · simp [h8, ht]
theorem nth_nd {p : Nat} (hp : p < l.length) : Ty.Tr.nth l p = ndA l (p : Int) := by rw [Ty.ndA_eq hp, Ty.Tr.nth_eq hp]
theorem evV_kind {f p : Nat} (hp : p < l.length) (he : eff l r = l) (hn : NsOk l p ns) (h1 : 20 ≤ (ndA l p).kd) (h2 : (ndA l p).kd ≤ 27) (h0 : (evV l r ns L (f + 1) p).2 = 0) : (evV l r ns L (f + 1) p).1.1 = typA l p := by
  rw [evV] at h0 ⊢
  cases hk : kidV (evV l r ns L f) (Ty.Tr.nth l p).ks with
  | inl vs =>
    rw [hk] at h0
    rw [nth_nd hp] at h0 ⊢
    exact mdV_kind hp he hn h1 h2 _ _ _ _ h0
  | inr e =>
    rw [hk] at h0
    have h0' : e = 0 := h0
    have := (kidV_ok (fun k => evV_ok f k) _ e hk).1
    omega
def wV (l : List Nd) (sd : List Int) (q : Nat) : Int × Int :=
  if (ndA l q).n = 3 then (3, 1) else if (ndA l q).n = 1 ∧ 0 < sd.length then (1, sd.getD (q % sd.length) 0) else ((ndA l q).n, 0)
theorem wV_kind (l : List Nd) (sd : List Int) (q : Nat) : (wV l sd q).1 = (ndA l q).n := by
  unfold wV
  by_cases h : (ndA l q).n = 3
  · rw [if_pos h, h]
  · rw [if_neg h]
    by_cases h2 : (ndA l q).n = 1 ∧ 0 < sd.length
    · rw [if_pos h2, h2.1]
    · rw [if_neg h2]
def dnB (l : List Nd) (p q : Nat) : Bool := decB (ndA l q).kd && decide (optZ (dnA l p (ndA l q).tx) = (q : Int))
def wL (l : List Nd) (p : Nat) (sd : List Int) : Nat → List NV
  | 0 => []
  | k + 1 => if dnB l p k then wL l p sd k ++ [⟨(ndA l k).tx, (wV l sd k).1, (wV l sd k).2⟩] else wL l p sd k
theorem named_app (a b : List NV) (s : ByteArray) : named (a ++ b) s = if ∃ x ∈ a, x.tx = s then named a s else named b s := by
  induction a with
  | nil => simp
  | cons x a ih =>
    show (if x.tx = s then _ else named (a ++ b) s) = _
    by_cases h : x.tx = s
    · rw [if_pos h, if_pos ⟨x, by simp, h⟩]; show _ = (if x.tx = s then _ else _); rw [if_pos h]
    · rw [if_neg h, ih]
      by_cases h2 : ∃ y ∈ a, y.tx = s
      · rw [if_pos h2, if_pos (by obtain ⟨y, hy, e⟩ := h2; exact ⟨y, List.mem_cons_of_mem _ hy, e⟩)]; show _ = (if x.tx = s then _ else _); rw [if_neg h]
      · rw [if_neg h2, if_neg (by rintro ⟨y, hy, e⟩; rcases List.mem_cons.1 hy with rfl | hy; exact h e; exact h2 ⟨y, hy, e⟩)]
theorem optZ_some {o : Option Nat} {q : Nat} (h : optZ o = (q : Int)) : o = some q := by
  cases o with
  | none => simp [optZ] at h
  | some x => simp [optZ] at h; exact congrArg some (by omega)
theorem wL_named (p : Nat) (sd : List Int) (s : ByteArray) : ∀ k, k ≤ l.length → (named (wL l p sd k) s).1 = (match dnA l p s with | none => 0 | some d => if d < k ∧ decB (ndA l d).kd ∧ (ndA l d).tx = s then (ndA l d).n else 0) ∧ ((∃ x ∈ wL l p sd k, x.tx = s) → ∃ d, dnA l p s = some d ∧ d < k)
  | 0, _ => by
    refine ⟨?_, fun ⟨x, hx, _⟩ => by cases hx⟩
    cases dnA l p s <;> simp [wL, named]
  | k + 1, hk => by
    obtain ⟨h1, h2⟩ := wL_named p sd s k (by omega)
    unfold wL
    by_cases hd : dnB l p k = true
    · rw [if_pos hd]
      have hd' := hd
      unfold dnB at hd'
      simp only [Bool.and_eq_true, decide_eq_true_eq] at hd'
      have hdk := optZ_some hd'.2
      refine ⟨?_, fun ⟨x, hx, e⟩ => ?_⟩
      · rw [named_app]
        by_cases hx : ∃ x ∈ wL l p sd k, x.tx = s
        · rw [if_pos hx, h1]
          obtain ⟨d, hd1, hd2⟩ := h2 hx
          rw [hd1]
          have : d < k + 1 := by omega
          simp only [this, hd2]
        · rw [if_neg hx]
          by_cases hs : (ndA l k).tx = s
          · subst hs
            rw [hdk]
            show (if _ then _ else _ : Int × Int).1 = _
            rw [if_pos rfl]
            show (wV l sd k).1 = if (k < k + 1 ∧ decB (ndA l k).kd = true ∧ (ndA l k).tx = (ndA l k).tx) then (ndA l k).n else 0
            rw [wV_kind, if_pos ⟨by omega, hd'.1, rfl⟩]
          · show (if (ndA l k).tx = s then _ else _ : Int × Int).1 = _
            rw [if_neg hs]
            show (0 : Int) = _
            cases hq : dnA l p s with
            | none => rfl
            | some d =>
              show (0 : Int) = if (d < k + 1 ∧ decB (ndA l d).kd = true ∧ (ndA l d).tx = s) then (ndA l d).n else 0
              rw [if_neg]
              rintro ⟨a, b, c⟩
              by_cases hdk2 : d = k
              · subst hdk2; exact hs c
              · rw [hq] at h1
                have hd3 : d < k := by omega
                have h1' : (named (wL l p sd k) s).1 = (ndA l d).n := by rw [h1]; show (if (d < k ∧ decB (ndA l d).kd = true ∧ (ndA l d).tx = s) then (ndA l d).n else 0) = _; rw [if_pos ⟨hd3, b, c⟩]
                have hin : ∃ x ∈ wL l p sd k, x.tx = s := by
                  have : ∀ m, d < m → m ≤ k → ∃ x ∈ wL l p sd m, x.tx = s := by
                    intro m
                    induction m with
                    | zero => intro h; omega
                    | succ m ih =>
                      intro hdm hmk
                      unfold wL
                      by_cases e : d = m
                      · subst e
                        have : dnB l p d = true := by unfold dnB; rw [b, c, hq]; simp [optZ]
                        rw [if_pos this]
                        exact ⟨_, List.mem_append_right _ (List.mem_singleton.2 rfl), c⟩
                      · obtain ⟨x, hx, hxs⟩ := ih (by omega) (by omega)
                        by_cases hz : dnB l p m = true
                        · rw [if_pos hz]; exact ⟨x, List.mem_append_left _ hx, hxs⟩
                        · rw [if_neg hz]; exact ⟨x, hx, hxs⟩
                  exact this k hd3 (Nat.le_refl _)
                exact hx hin
      · rcases List.mem_append.1 hx with hx | hx
        · obtain ⟨d, a, b⟩ := h2 ⟨x, hx, e⟩
          exact ⟨d, a, by omega⟩
        · rw [List.mem_singleton.1 hx] at e
          exact ⟨k, by rw [← e]; exact hdk, by omega⟩
    · rw [if_neg hd]
      refine ⟨?_, fun h => by obtain ⟨d, a, b⟩ := h2 h; exact ⟨d, a, by omega⟩⟩
      rw [h1]
      cases hq : dnA l p s with
      | none => rfl
      | some d =>
        show (if (d < k ∧ decB (ndA l d).kd = true ∧ (ndA l d).tx = s) then (ndA l d).n else 0) = if (d < k + 1 ∧ decB (ndA l d).kd = true ∧ (ndA l d).tx = s) then (ndA l d).n else 0
        by_cases hc : d < k ∧ decB (ndA l d).kd = true ∧ (ndA l d).tx = s
        · rw [if_pos hc, if_pos ⟨by omega, hc.2⟩]
        · rw [if_neg hc]
          by_cases hc2 : d < k + 1 ∧ decB (ndA l d).kd = true ∧ (ndA l d).tx = s
          · exfalso
            have hdk : d = k := by
              by_cases e : d < k
              · exact absurd ⟨e, hc2.2⟩ hc
              · omega
            subst hdk
            apply hd
            unfold dnB
            rw [hc2.2.1, hc2.2.2, hq]
            simp [optZ]
          · rw [if_neg hc2]
theorem dnA_is {p : Nat} {s : ByteArray} {d : Nat} (h : dnA l p s = some d) : d < l.length ∧ decB (ndA l d).kd = true ∧ (ndA l d).tx = s := by
  have key : ∀ o, dcF l o s 0 = some d → d < l.length ∧ decB (ndA l d).kd = true ∧ (ndA l d).tx = s := fun o h => by
    obtain ⟨_, a, b, _⟩ := fstA_some h
    unfold dcB at b
    simp only [Bool.and_eq_true, decide_eq_true_eq] at b
    exact ⟨a, b.1, b.2.2⟩
  unfold dnA at h
  by_cases ho : owA l p = -1
  · rw [if_pos ho] at h; cases h
  · rw [if_neg ho] at h
    cases hq : dcF l (owA l p) s 0 with
    | some x => rw [hq] at h; simp at h; subst h; exact key _ hq
    | none => rw [hq] at h; simp at h; exact key _ h
theorem nsOk_w (p : Nat) (sd : List Int) : NsOk l p (wL l p sd l.length) := by
  unfold NsOk
  rw [(wL_named p sd _ l.length (Nat.le_refl _)).1]
  unfold vrT
  cases hq : dnA l p (ndA l p).tx with
  | none => rfl
  | some d =>
    obtain ⟨a, b, c⟩ := dnA_is hq
    show (if (d < l.length ∧ decB (ndA l d).kd = true ∧ (ndA l d).tx = (ndA l p).tx) then (ndA l d).n else 0) = _
    rw [if_pos ⟨a, b, c⟩]
theorem wL_len (p : Nat) (sd : List Int) : ∀ k, (wL l p sd k).length ≤ k
  | 0 => Nat.le_refl _
  | k + 1 => by
    have := wL_len p sd k
    unfold wL
    split
    · rw [List.length_append]; simp; omega
    · omega
end
end Go.Proofs.Ytignojhijmamhaa
