/- PROVED here: words for tokens in memory, and how a text is cut piece by piece. No condition but those in each theorem's own head. -/
import Derived.Test.YtahmadelokofbaaDoorI
import Derived.Test.YtahmadelokofbaaDoorF
namespace Go.Proofs.YtahmadelokofbaaDoor
open Go Go.RowKit

structure Tok where
  k : Nat
  n : Int
  p : Nat
  s : List UInt8
deriving DecidableEq, Repr
def bs (l : List UInt8) : ByteArray := ⟨l.toArray⟩
theorem bs_list (l : List UInt8) : (bs l).data.toList = l := by simp [bs]
theorem bs_of (s : ByteArray) : bs s.data.toList = s := by cases s; simp [bs]
def tcv (t : Tok) : List Value := [.int .i64 (t.k : Int), .int .i64 t.n, .int .i64 (t.p : Int), .string (bs t.s)]
def tfl (ts : List Tok) : List Value := ts.flatMap tcv
theorem tfl_cons (t : Tok) (ts : List Tok) : tfl (t :: ts) = tcv t ++ tfl ts := rfl
theorem tfl_app (a b : List Tok) : tfl (a ++ b) = tfl a ++ tfl b := by unfold tfl; rw [List.flatMap_append]
theorem tfl_len : ∀ ts : List Tok, (tfl ts).length = ts.length * 4
  | [] => rfl
  | t :: ts => by rw [tfl_cons, List.length_append, tfl_len ts, List.length_cons]; simp [tcv]; omega
theorem tfl_get : ∀ (ts : List Tok) (j : Nat) (hj : j < ts.length) (i : Nat), i < 4 → (tfl ts)[j * 4 + i]? = (tcv ts[j])[i]?
  | t :: ts, 0, _, i, hi => by
    rw [tfl_cons, List.getElem?_append_left (by simp [tcv]; omega)]; simp
  | t :: ts, j + 1, hj, i, hi => by
    rw [tfl_cons, List.getElem?_append_right (by simp [tcv]; omega)]
    have ih := tfl_get ts j (by simpa using hj) i hi
    rw [show (j + 1) * 4 + i - (tcv t).length = j * 4 + i by simp [tcv]; omega, ih]
    rfl
/-- a slice of tokens -/
def Toks (w : World) (A : Option Addr) (ts : List Tok) : Prop :=
  0 < ts.length → ∃ b off, A = some ⟨b, off, none⟩ ∧ b < w.heap.size ∧ ∀ j (hj : j < ts.length) i, i < 4 → w.cell? ⟨b, off + j * 4 + i, none⟩ = (tcv ts[j])[i]?
theorem Toks.below {w w' : World} {A : Option Addr} {ts : List Tok} (h : Toks w A ts) (hb : Below w.heap.size w w') : Toks w' A ts := fun h0 => by
  obtain ⟨b, off, e, hl, hc⟩ := h h0
  exact ⟨b, off, e, Nat.lt_of_lt_of_le hl hb.size, fun j hj i hi => (hb.cell (p := ⟨b, off + j * 4 + i, none⟩) hl).trans (hc j hj i hi)⟩
theorem own_below {w w' : World} {base e size n : Nat} {v : Value} {xs : List Value} (h : w.ownsRow base e size v n xs) (hb : Below w.heap.size w w') : w'.ownsRow base e size v n xs :=
  h.kept (row := none) ⟨hb.os, hb.tape, hb.output, hb.size, fun i hi _ => hb.block i hi⟩ (by cases h : v.ownBlock <;> simp)
theorem toks_own {w : World} {base : Nat} {v : Value} {ts : List Tok} (h : w.ownsRow base 34 4 v ts.length (tfl ts)) : ∃ A c, v = .slice A ts.length c ∧ Toks w A ts ∧ ∀ a, A = some a → base ≤ a.block := by
  rcases h.2 with ⟨rfl, e⟩ | ⟨g, cap, cur, rfl, hb, hg, hn, _, _, ht⟩
  · exact ⟨none, 0, by rw [e], fun h0 => by omega, fun a e => by cases e⟩
  · refine ⟨_, cap, rfl, fun h0 => ⟨g, 0, rfl, (Array.getElem?_eq_some_iff.1 hg).1, fun j hj i hi => ?_⟩, fun a e => by injection e with e; subst e; exact hb⟩
    have h1 := tfl_get ts j hj i hi
    rw [← ht, List.getElem?_take, if_pos (by omega)] at h1
    rw [Nat.zero_add, cell_of_row w g (j * 4 + i) cur 34 (0, 0) hg, ← h1]
    simp
inductive Res where
  | ok (l : List Tok)
  | bad (p : Nat)
deriving DecidableEq
def Res.pre (a : List Tok) : Res → Res
  | .ok l => .ok (a ++ l)
  | .bad p => .bad p
theorem Res.pre_nil (r : Res) : r.pre [] = r := by cases r <;> rfl
theorem Res.pre_pre (a b : List Tok) (r : Res) : (r.pre b).pre a = r.pre (a ++ b) := by cases r <;> simp [Res.pre]
def endT (n : Nat) : Tok := ⟨5, 0, n, []⟩
def sub (l : List UInt8) (p q : Nat) : List UInt8 := (l.drop p).take (q - p)
def pTok (l : List UInt8) (p q : Nat) : Tok := ⟨tokK (sub l p q), tokN (sub l p q), p, sub l p q⟩
/-- how a text is cut from a place on, piece by piece -/
def cutN : Nat → List UInt8 → Nat → Res
  | 0, l, _ => .ok [endT l.length]
  | f + 1, l, p =>
    if p < l.length then
      if spB (l.getD p 0) || cmB (l.getD p 0) then cutN f l (peF l p)
      else if tokK (sub l p (peF l p)) = 0 then .bad p
      else (cutN f l (peF l p)).pre [pTok l p (peF l p)]
    else .ok [endT l.length]
theorem cutN_more : ∀ (f : Nat) (l : List UInt8) (p g : Nat), l.length - p ≤ f → l.length - p ≤ g → cutN f l p = cutN g l p
  | 0, l, p, 0, _, _ => rfl
  | 0, l, p, g + 1, h, _ => by simp only [cutN]; rw [if_neg (by omega)]
  | f + 1, l, p, 0, _, h => by simp only [cutN]; rw [if_neg (by omega)]
  | f + 1, l, p, g + 1, h1, h2 => by
    simp only [cutN]
    by_cases hp : p < l.length
    · have := peF_bounds hp
      rw [if_pos hp, if_pos hp, cutN_more f l (peF l p) g (by omega) (by omega)]
    · rw [if_neg hp, if_neg hp]
def cutR (l : List UInt8) (p : Nat) : Res := cutN (l.length - p) l p
theorem cutR_end {l : List UInt8} {p : Nat} (h : ¬ p < l.length) : cutR l p = .ok [endT l.length] := by
  unfold cutR; rw [show l.length - p = 0 by omega]; rfl
theorem cutR_step {l : List UInt8} {p : Nat} (h : p < l.length) : cutR l p = if spB (l.getD p 0) || cmB (l.getD p 0) then cutR l (peF l p)
      else if tokK (sub l p (peF l p)) = 0 then .bad p
      else (cutR l (peF l p)).pre [pTok l p (peF l p)] := by
  have hb := peF_bounds h
  unfold cutR
  obtain ⟨m, hm⟩ : ∃ m, l.length - p = m + 1 := ⟨l.length - p - 1, by omega⟩
  rw [hm]
  simp only [cutN]
  rw [if_pos h, cutN_more m l (peF l p) (l.length - peF l p) (by omega) (by omega)]
end Go.Proofs.YtahmadelokofbaaDoor
