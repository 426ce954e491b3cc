/- PROVED here: parts TyBa of the claim. No condition but those in each theorem's own head. -/
import Derived.Test.YtignojhijmamhaaK07
namespace Go.Proofs.Ytignojhijmamhaa.Ty
section
open Go
open Tr (nth stmB expB allB kidB ndB shB risB run1 ri1 ri2 numB txB idB sgB StU kidsAt Snd)
def fstA (P : Nat → Bool) (p n : Nat) : Option Nat := (List.range' p (n - p)).find? P
theorem fstA_step {P : Nat → Bool} {p n : Nat} (h : p < n) : fstA P p n = if P p then some p else fstA P (p + 1) n := by
  unfold fstA
  rw [show n - p = (n - (p + 1)) + 1 by omega, List.range'_succ, List.find?_cons]
  cases P p <;> rfl
theorem fstA_end {P : Nat → Bool} {p n : Nat} (h : n ≤ p) : fstA P p n = none := by
  unfold fstA
  rw [show n - p = 0 by omega]; rfl
theorem fstA_some {P : Nat → Bool} {p n q : Nat} (h : fstA P p n = some q) : p ≤ q ∧ q < n ∧ P q = true ∧ ∀ j, p ≤ j → j < q → P j = false := by
  unfold fstA at h
  rw [List.find?_eq_some_iff_append] at h
  obtain ⟨h1, us, bs, h2, h3⟩ := h
  have hm : q ∈ List.range' p (n - p) := by rw [h2]; simp
  rw [List.mem_range'_1] at hm
  refine ⟨hm.1, by omega, h1, fun j h4 h5 => ?_⟩
  have hj : j ∈ List.range' p (n - p) := List.mem_range'_1.2 ⟨h4, by omega⟩
  rw [h2] at hj
  have hs : (us ++ q :: bs).Pairwise (· < ·) := by rw [← h2]; exact List.pairwise_lt_range'
  rcases List.mem_append.1 hj with h6 | h6
  · have := h3 j h6
    simpa using this
  · exfalso
    rcases List.mem_cons.1 h6 with e | h7
    · omega
    · have := (List.pairwise_cons.1 (List.pairwise_append.1 hs).2.1).1 j h7
      omega
theorem fstA_none {P : Nat → Bool} {p n : Nat} (h : fstA P p n = none) : ∀ j, p ≤ j → j < n → P j = false := fun j h1 h2 => by
  unfold fstA at h
  have := List.find?_eq_none.1 h j (List.mem_range'_1.2 ⟨h1, by omega⟩)
  simpa using this
theorem fstA_is {P : Nat → Bool} {p n q : Nat} (h1 : p ≤ q) (h2 : q < n) (h3 : P q = true) (h4 : ∀ j, p ≤ j → j < q → P j = false) : fstA P p n = some q := by
  cases e : fstA P p n with
  | none => have := fstA_none e q h1 h2; rw [h3] at this; cases this
  | some r =>
    obtain ⟨a, b, c, d⟩ := fstA_some e
    rcases Nat.lt_trichotomy q r with h | h | h
    · have := d q h1 h; rw [h3] at this; cases this
    · rw [h]
    · have := h4 r a h; rw [c] at this; cases this
theorem fstA_mem {P : Nat → Bool} {p n q : Nat} (h1 : p ≤ q) (h2 : q < n) (h3 : P q = true) : ∃ r, fstA P p n = some r ∧ r ≤ q := by
  cases e : fstA P p n with
  | none => have := fstA_none e q h1 h2; rw [h3] at this; cases this
  | some r =>
    obtain ⟨a, b, c, d⟩ := fstA_some e
    refine ⟨r, rfl, ?_⟩
    rcases Nat.lt_or_ge q r with h | h
    · have := d q h1 h; rw [h3] at this; cases this
    · exact h
section
variable (l : List Tr.Nd)
def decB (k : Int) : Bool := decide (k = 2) || (decide (k = 4) || decide (k = 5))
def owL : List Tr.Nd → Nat → Int
  | [], _ => -1
  | x :: r, p => if x.kd = 2 then -1 else if x.kd = 3 then (p : Int) else owL r (p + 1)
def owA (p : Nat) : Int := owL (l.drop p) p
def dcB (o : Int) (nm : ByteArray) (q : Nat) : Bool := decB (ndA l q).kd && (decide (owA l q = o) && decide ((ndA l q).tx = nm))
def prB (nm : ByteArray) (q : Nat) : Bool := decide ((ndA l q).kd = 3) && decide ((ndA l q).tx = nm)
def dcF (o : Int) (nm : ByteArray) (p : Nat) : Option Nat := fstA (dcB l o nm) p l.length
def prF (nm : ByteArray) (p : Nat) : Option Nat := fstA (prB l nm) p l.length
def optZ (o : Option Nat) : Int := match o with | none => -1 | some q => (q : Int)
def dnA (p : Nat) (nm : ByteArray) : Option Nat := if owA l p = -1 then none else (dcF l (owA l p) nm 0).or (dcF l (-1) nm 0)
def vrT (p : Nat) : Int := match dnA l p (ndA l p).tx with | none => 0 | some d => (ndA l d).n
def sgnT (s : ByteArray) : Int := if s = ⟨#[43]⟩ ∨ s = ⟨#[45]⟩ ∨ s = ⟨#[42]⟩ ∨ s = ⟨#[47]⟩ ∨ s = ⟨#[37]⟩ then 1 else 2
def typA (p : Nat) : Int :=
  if (ndA l p).kd = 20 ∨ (ndA l p).kd = 23 ∨ (ndA l p).kd = 24 then 1
  else if (ndA l p).kd = 21 then 2
  else if (ndA l p).kd = 22 then vrT l p
  else if (ndA l p).kd = 25 then 4
  else if (ndA l p).kd = 26 ∨ (ndA l p).kd = 27 then sgnT (ndA l p).tx
  else 0
def sgP (q : Int) : List Int := ((ndA l q).ks.filter fun k => decide ((ndA l k).kd = 4)).map fun k => (ndA l k).n
def plnB (q : Int) : Bool := decide (sgP l q = [1]) && decide ((ndA l q).n = 1)
def takB (p : Nat) : Bool :=
  if decB (ndA l p).kd then !decide (dcF l (owA l p) (ndA l p).tx 0 = some p)
  else if (ndA l p).kd = 3 then (dcF l (-1) (ndA l p).tx 0).isSome || !decide (prF l (ndA l p).tx 0 = some p) else false
def calN (p : Nat) : ByteArray := (ndA l (kidA l p 0)).tx
def unkB (p : Nat) : Bool :=
  if (ndA l p).kd = 22 ∨ (ndA l p).kd = 23 ∨ (ndA l p).kd = 24 ∨ (ndA l p).kd = 7 ∨ (ndA l p).kd = 8 ∨ (ndA l p).kd = 17 ∨ (ndA l p).kd = 9 ∨ (ndA l p).kd = 16 then (dnA l p (ndA l p).tx).isNone
  else if (ndA l p).kd = 25 then (prF l (ndA l p).tx 0).isNone
  else if (ndA l p).kd = 13 then ((dnA l p (calN l p)).isNone && (prF l (calN l p) 0).isNone) || (!decide ((ndA l p).tx = ⟨#[]⟩) && (dnA l p (ndA l p).tx).isNone)
  else false
def areB (ks : List Int) (t : Int) : Bool := ks.all fun k => decide (typA l k.toNat = t)
def fitB (p : Nat) : Bool :=
  if (ndA l p).tx = ⟨#[33]⟩ ∨ (ndA l p).tx = ⟨#[38, 38]⟩ ∨ (ndA l p).tx = ⟨#[124, 124]⟩ then areB l (ndA l p).ks 2
  else if (ndA l p).tx = ⟨#[61, 61]⟩ ∨ (ndA l p).tx = ⟨#[33, 61]⟩ then areB l (ndA l p).ks 1 || areB l (ndA l p).ks 2
  else areB l (ndA l p).ks 1
def calS (p : Nat) : (List Int × Int) × Bool :=
  match dnA l p (calN l p) with
  | none => ((sgP l (optZ (prF l (calN l p) 0)), (ndA l (optZ (prF l (calN l p) 0))).n), true)
  | some d => (([1], 1), decide ((ndA l d).n = 4))
def fitC (p : Nat) : Bool :=
  (calS l p).2 && (decide (((ndA l p).ks.tail.map fun k => typA l k.toNat) = (calS l p).1.1) && (decide ((ndA l p).tx = ⟨#[]⟩) || decide (vrT l p = (calS l p).1.2)))
def fitR (p : Nat) : Bool :=
  if (ndA l p).ks = [] ∨ (ndA l (owA l p)).n = 0 then decide ((ndA l p).ks = []) && decide ((ndA l (owA l p)).n = 0)
  else decide (typA l (kidA l p 0).toNat = (ndA l (owA l p)).n)
def misB (p : Nat) : Bool :=
  if (ndA l p).kd = 23 ∨ (ndA l p).kd = 24 ∨ (ndA l p).kd = 8 ∨ (ndA l p).kd = 17 then !decide (vrT l p = 3) || !(areB l (ndA l p).ks 1)
  else if (ndA l p).kd = 25 then !(plnB l (optZ (prF l (ndA l p).tx 0)))
  else if (ndA l p).kd = 26 ∨ (ndA l p).kd = 27 then !(fitB l p)
  else if (ndA l p).kd = 7 then !decide (vrT l p = typA l (kidA l p 0).toNat)
  else if (ndA l p).kd = 9 ∨ (ndA l p).kd = 16 then !decide (vrT l p = 1)
  else if (ndA l p).kd = 10 then !decide (typA l (kidA l p 1).toNat = 1)
  else if (ndA l p).kd = 15 then !decide (typA l (kidA l p 0).toNat = 1)
  else if (ndA l p).kd = 11 ∨ (ndA l p).kd = 12 then !decide (typA l (kidA l p 0).toNat = 2)
  else if (ndA l p).kd = 13 then !(fitC l p)
  else if (ndA l p).kd = 14 then !(fitR l p)
  else false
def fauA (p : Nat) : Int := if takB l p then 4 else if unkB l p then 3 else if misB l p then 5 else 0
def manB : Bool := match prF l ⟨#[109, 97, 105, 110]⟩ 0 with | none => false | some q => decide (sgP l q = []) && decide ((ndA l q).n = 0)
end
def chkA (l : List Tr.Nd) (r : Int) : Int × Int :=
  match fstA (fun p => !decide (fauA l p = 0)) 0 l.length with
  | some p => ((p : Int), fauA l p)
  | none => if manB l then (0, 0) else (r, 11)
theorem owA_end {l : List Tr.Nd} {p : Nat} (h : l.length ≤ p) : owA l p = -1 := by
  unfold owA; rw [List.drop_eq_nil_of_le h]; rfl
theorem owA_step {l : List Tr.Nd} {p : Nat} (h : p < l.length) : owA l p = if (ndA l p).kd = 2 then -1 else if (ndA l p).kd = 3 then (p : Int) else owA l (p + 1) := by
  unfold owA
  rw [List.drop_eq_getElem_cons h, ndA_eq h]
  rfl
theorem owA_lt {l : List Tr.Nd} : ∀ (k p : Nat), l.length - p = k → owA l p = -1 ∨ ∃ q : Nat, owA l p = (q : Int) ∧ p ≤ q ∧ q < l.length ∧ (ndA l q).kd = 3
  | 0, p, h => Or.inl (owA_end (l := l) (by omega))
  | k + 1, p, h => by
    rw [owA_step (show p < l.length by omega)]
    by_cases h2 : (ndA l p).kd = 2
    · rw [if_pos h2]; exact Or.inl rfl
    rw [if_neg h2]
    by_cases h3 : (ndA l p).kd = 3
    · rw [if_pos h3]; exact Or.inr ⟨p, rfl, Nat.le_refl _, by omega, h3⟩
    rw [if_neg h3]
    rcases owA_lt (l := l) k (p + 1) (by omega) with h4 | ⟨q, h4, h5, h6, h7⟩
    · exact Or.inl h4
    · exact Or.inr ⟨q, h4, by omega, h6, h7⟩
theorem owA_range (l : List Tr.Nd) (p : Nat) : owA l p = -1 ∨ ∃ q : Nat, owA l p = (q : Int) ∧ p ≤ q ∧ q < l.length ∧ (ndA l q).kd = 3 := owA_lt _ p rfl
theorem owA_at {l : List Tr.Nd} {m : Nat} (hm : m < l.length) (h3 : (ndA l m).kd = 3) : ∀ (k q : Nat), m - q = k → q ≤ m → (∀ j, q ≤ j → j < m → 4 ≤ (ndA l j).kd) → owA l q = (m : Int)
  | 0, q, h, hq, _ => by
    obtain rfl : q = m := by omega
    rw [owA_step hm, if_neg (by omega), if_pos h3]
  | k + 1, q, h, hq, hb => by
    have := hb q (Nat.le_refl _) (by omega)
    rw [owA_step (show q < l.length by omega), if_neg (by omega), if_neg (by omega)]
    exact owA_at hm h3 k (q + 1) (by omega) (by omega) fun j h1 h2 => hb j (by omega) h2
theorem kid_low {k : Int} {ks : List Int} (hk : 3 ≤ k) (h : kidB k ks = true) : ∀ x ∈ ks, 4 ≤ x := fun x hx => by
  have hex : ∀ y, expB y = true → 4 ≤ y := fun y hy => by unfold expB at hy; simp only [Bool.and_eq_true, decide_eq_true_eq] at hy; omega
  have hst : ∀ y, stmB y = true → 4 ≤ y := fun y hy => by unfold stmB at hy; simp only [Bool.and_eq_true, decide_eq_true_eq] at hy; omega
  have hal : ∀ {ys : List Int}, allB ys = true → ∀ y ∈ ys, 4 ≤ y := fun hys y hy => hex y (List.all_eq_true.1 hys y hy)
  unfold kidB at h
  rw [if_neg (by omega)] at h
  split at h
  · obtain ⟨l', e, h2⟩ := ris_last (by decide) h
    rw [e] at hx
    rcases List.mem_append.1 hx with h3 | h3
    · rcases h2 x h3 with e | e <;> omega
    · rw [List.mem_singleton.1 h3]; decide
  split at h
  · exact hst x (List.all_eq_true.1 h x hx)
  split at h
  · exact hal (by simp only [Bool.and_eq_true] at h; exact h.2) x hx
  split at h
  · exact hal (by simp only [Bool.and_eq_true] at h; exact h.2) x hx
  split at h
  · simp only [Bool.and_eq_true, decide_eq_true_eq] at h
    obtain ⟨a, rfl⟩ := len_one h.1
    rw [List.mem_singleton.1 hx]
    have := h.2
    simp at this
    omega
  split at h
  · simp only [Bool.and_eq_true, decide_eq_true_eq] at h
    obtain ⟨a, b, rfl⟩ := len_two h.1.1
    have h2 := h.1.2
    have h3 := h.2
    simp at h2 h3
    simp at hx
    rcases hx with rfl | rfl
    · omega
    · exact hex _ h3
  split at h
  · simp only [Bool.and_eq_true, decide_eq_true_eq] at h
    obtain ⟨a, b, c, rfl⟩ := len_three h.1.1.1
    have h1 := h.1.1.2
    have h2 := h.1.2
    have h3 := h.2
    simp at h1 h2 h3
    simp at hx
    rcases hx with rfl | rfl | rfl
    · exact hex _ h1
    · omega
    · omega
  split at h
  · simp only [Bool.and_eq_true, decide_eq_true_eq] at h
    obtain ⟨a, b, rfl⟩ := len_two h.1.1
    have h1 := h.1.2
    have h2 := h.2
    simp at h1 h2
    simp at hx
    rcases hx with rfl | rfl
    · exact hex _ h1
    · omega
  split at h
  · simp only [Bool.and_eq_true, decide_eq_true_eq] at h
    rcases ks with _ | ⟨a, ks⟩
    · cases hx
    have h1 := h.1.2
    have h2 := h.2
    simp at h1 h2
    rcases List.mem_cons.1 hx with rfl | hx
    · omega
    · exact hal h2 x hx
  split at h
  · exact hal (by simp only [Bool.and_eq_true] at h; exact h.2) x hx
  split at h
  · simp only [Bool.and_eq_true, decide_eq_true_eq] at h
    obtain ⟨a, b, rfl⟩ := len_two h.1.1
    have h1 := h.1.2
    have h2 := h.2
    simp at h1 h2
    simp at hx
    rcases hx with rfl | rfl <;> omega
  · have := of_decide_eq_true h
    rw [List.length_eq_zero_iff.1 this] at hx
    cases hx
theorem proc_down {l : List Tr.Nd} {b : Nat → Nat} (hS : StU l b l.length) (h : shB l = true) : ∀ p : Nat, p < l.length → 3 ≤ (ndA l p).kd → ∀ q, b p ≤ q → q < p → 4 ≤ (ndA l q).kd := by
  intro p
  induction p using Nat.strongRecOn with
  | _ p ih =>
    intro hp he q h1 h2
    have h3 := hS p hp
    rw [kidsAt_ks hp] at h3
    obtain ⟨m, hm, h4, h5, h6⟩ := Tr.stK_in _ p (b p) q (fun q hq => hS.le q (by omega)) h3 h1 (by omega)
    have hm2 := List.mem_reverse.1 hm
    have h7 : 4 ≤ (ndA l (m : Int)).kd := kid_low he (nd_ok h hp).kid _ (kds_mem hm2)
    by_cases e : q = m
    · rw [e]; exact h7
    exact ih m h6 (by omega) (by omega) q h4 (by omega)
theorem own_of {l : List Tr.Nd} {b : Nat → Nat} (hS : StU l b l.length) (h0 : b (l.length - 1) = 0) (hl : 1 ≤ l.length) (h : shB l = true) (hr : (ndA l ((l.length - 1 : Nat) : Int)).kd = 1) {p : Nat} (hp : p < l.length) :
    p = l.length - 1 ∨ (ndA l p).kd = 2 ∨ ∃ m : Nat, (m : Int) ∈ (ndA l ((l.length - 1 : Nat) : Int)).ks ∧ (ndA l m).kd = 3 ∧ b m ≤ p ∧ p ≤ m ∧ m < l.length ∧ owA l p = (m : Int) := by
  by_cases e : p = l.length - 1
  · exact Or.inl e
  have hr1 : l.length - 1 < l.length := by omega
  have h3 := hS _ hr1
  rw [kidsAt_ks hr1, h0] at h3
  obtain ⟨m, hm, h4, h5, h6⟩ := Tr.stK_in _ _ 0 p (fun q hq => hS.le q (by omega)) h3 (by omega) (by omega)
  have hm2 := List.mem_reverse.1 hm
  have hk := (nd_ok h hr1).kid
  rw [hr] at hk
  have hk2 := ris_all (show risB (kdsA l ((l.length - 1 : Nat) : Int)) 2 3 0 = true from hk) _ (kds_mem hm2)
  rcases hk2 with e2 | e3
  · refine Or.inr (Or.inl ?_)
    have hml : m < l.length := by omega
    have hkm := (nd_ok h hml).kid
    rw [e2] at hkm
    have hnil : (ndA l (m : Int)).ks = [] := by
      have : kdsA l (m : Int) = [] := by simpa [kidB] using hkm
      exact List.map_eq_nil_iff.1 this
    have h7 := hS m hml
    rw [kidsAt_ks hml, hnil] at h7
    have h8 : m = b m := by simpa [Tr.stK] using h7
    obtain rfl : p = m := by omega
    exact e2
  · have hml : m < l.length := by omega
    exact Or.inr (Or.inr ⟨m, hm2, e3, h4, h5, hml, owA_at hml e3 _ p rfl h5 fun j h7 h8 => proc_down hS h m hml (by omega) j (by omega) h8⟩)
end
section
open Go
open Tr (nth stmB expB allB kidB ndB shB risB run1 ri1 ri2 numB txB idB sgB StU kidsAt Snd)
structure RtN (l : List Tr.Nd) (b : Nat → Nat) : Prop where
  st : StU l b l.length
  zero : b (l.length - 1) = 0
  len : 1 ≤ l.length
  sh : shB l = true
  root : (ndA l ((l.length - 1 : Nat) : Int)).kd = 1
theorem RtN.owns {l : List Tr.Nd} {b : Nat → Nat} (h : RtN l b) {p : Nat} (hp : p < l.length) (h4 : 3 ≤ (ndA l p).kd) : ∃ m : Nat, owA l p = (m : Int) ∧ p ≤ m ∧ m < l.length ∧ (ndA l m).kd = 3 := by
  rcases own_of h.st h.zero h.len h.sh h.root hp with e | e | ⟨m, _, e3, _, h5, h6, h7⟩
  · rw [e, h.root] at h4; omega
  · omega
  · exact ⟨m, h7, h5, h6, e3⟩
theorem dnA_lt {l : List Tr.Nd} {p d : Nat} {nm : ByteArray} (h : dnA l p nm = some d) : d < l.length ∧ decB (ndA l d).kd = true ∧ (ndA l d).tx = nm := by
  unfold dnA at h
  split at h
  · cases h
  · rw [Option.or_eq_some_iff] at h
    have hk : ∀ {o : Int}, dcF l o nm 0 = some d → d < l.length ∧ decB (ndA l d).kd = true ∧ (ndA l d).tx = nm := fun h0 => by
      obtain ⟨_, h1, h2, _⟩ := fstA_some h0
      unfold dcB at h2
      simp only [Bool.and_eq_true, decide_eq_true_eq] at h2
      exact ⟨h1, h2.1, h2.2.2⟩
    rcases h with h | ⟨_, h⟩ <;> exact hk h
theorem prF_lt {l : List Tr.Nd} {q : Nat} {nm : ByteArray} (h : prF l nm 0 = some q) : q < l.length ∧ (ndA l q).kd = 3 ∧ (ndA l q).tx = nm := by
  obtain ⟨_, h1, h2, _⟩ := fstA_some h
  unfold prB at h2
  simp only [Bool.and_eq_true, decide_eq_true_eq] at h2
  exact ⟨h1, h2.1, h2.2⟩
end
end Go.Proofs.Ytignojhijmamhaa.Ty
