/- PROVED here: a sound tree is its root over the trees of its kids. -/
import Derived.Test.YtcnmkmdedeiffaaOa
namespace Go.Proofs.Ytcnmkmdedeiffaa
open Go Go.RowKit

/-- kids, from the first to the last: their trees stand one behind the other -/
def Fw (b : Nat → Nat) : List Int → Nat → Nat → Prop
  | [], e, s => e = s
  | k :: ks, e, s => ∃ m : Nat, k = m ∧ b m = e ∧ e ≤ m ∧ Fw b ks (m + 1) s
theorem fw_of {b : Nat → Nat} : ∀ (ks : List Int) (s e : Nat), (∀ q, q < s → b q ≤ q) → stK b ks.reverse s = some e → Fw b ks e s
  | [], s, e, _, h => by
    have : some s = some e := h
    exact (Option.some.inj this).symm
  | k :: ks, s, e, hb, h => by
    rw [List.reverse_cons, stK_app] at h
    cases h1 : stK b ks.reverse s with
    | none => rw [h1] at h; cases h
    | some s1 =>
      rw [h1] at h
      have h2 : stK b [k] s1 = some e := h
      have h3 := stK_le _ _ _ hb h1
      unfold stK at h2
      split at h2
      · cases h2
      split at h2
      case isFalse => cases h2
      case isTrue h4 h5 =>
        have h6 : some (b (s1 - 1)) = some e := h2
        have h7 := Option.some.inj h6
        have h8 := hb (s1 - 1) (by omega)
        refine ⟨s1 - 1, by omega, h7, by omega, ?_⟩
        rw [show s1 - 1 + 1 = s1 by omega]
        exact fw_of ks s s1 hb h1
/-- the trees of kids -/
def subTs (l : List Nd) (ks : List Int) : List Tr := ks.map fun k => (subL l k.toNat, (subR l k.toNat : Int))
theorem mv_back {l : List Nd} {b : Nat → Nat} {m : Nat} (hl : l.length ≤ 4000) (hS : StU l b l.length) (hm : m < l.length) : (subL l m).map (mvN (b m : Int)) = (l.take (m + 1)).drop (b m) := by
  have e : stF l l.length m = b m := stF_is hS m hm
  unfold subL
  rw [e, List.map_map]
  conv => rhs; rw [← List.map_id ((l.take (m + 1)).drop (b m))]
  apply List.ext_getElem
  · simp
  · intro i h1 h2
    have hlen : i < ((l.take (m + 1)).drop (b m)).length := by simpa using h1
    rw [List.getElem_map, List.getElem_map]
    have hi : i + b m ≤ m := by rw [List.length_drop, List.length_take] at hlen; omega
    have hlt : b m + i < l.length := by omega
    have eg : ((l.take (m + 1)).drop (b m))[i] = l[b m + i] := by rw [List.getElem_drop, List.getElem_take]
    rw [eg]
    have hk : ∀ k ∈ l[b m + i].ks, wrap64 (wrap64 (k + -(b m : Int)) + (b m : Int)) = k := fun k hk => by
      have hk' : k ∈ kidsAt l (b m + i) := by rw [kidsAt_eq hlt]; exact hk
      obtain ⟨q, rfl, hq, _⟩ := hS.kid hlt hk'
      have := hS.le m hm
      rw [wrap_small (x := (q : Int) + -(b m : Int)) (by omega) (by omega), wrap_small (by omega) (by omega)]
      omega
    generalize l[b m + i] = x at *
    obtain ⟨a1, a2, a3, a4, ks⟩ := x
    show Nd.mk a1 a2 a3 a4 ((ks.map fun k => wrap64 (k + -(b m : Int))).map fun k => wrap64 (k + (b m : Int))) = Nd.mk a1 a2 a3 a4 ks
    congr 1
    rw [List.map_map]
    conv => rhs; rw [← List.map_id ks]
    apply List.map_congr_left
    intro k hk'
    exact hk k hk'
theorem take_drop_cat {l : List Nd} {e m : Nat} (h : e ≤ m + 1) : l.take e ++ (l.take (m + 1)).drop e = l.take (m + 1) := by
  have h1 : l.take e = (l.take (m + 1)).take e := by rw [List.take_take, Nat.min_eq_left h]
  rw [h1, List.take_append_drop]
def stepO (acc : List Nd) (t : Tr) : List Nd := acc ++ t.1.map (mvN (acc.length : Int))
theorem ovA_eq (ts : List Tr) : ovA ts = ts.foldl stepO [] := rfl
/-- the places of the roots, one behind the other -/
def rtR : List Nd → List Tr → List Int
  | _, [] => []
  | acc, t :: ts => wrap64 ((acc.length : Int) + t.2) :: rtR (stepO acc t) ts
theorem rtR_eq : ∀ (ts : List Tr) (acc : List Nd), (List.range ts.length).map (fun j => wrap64 (((ts.take j).foldl stepO acc).length + (ts.getD j ([], 0)).2)) = rtR acc ts
  | [], _ => rfl
  | t :: ts, acc => by
    rw [List.length_cons, List.range_succ_eq_map, List.map_cons, List.map_map]
    show _ :: _ = _ :: _
    congr 1
    rw [← rtR_eq ts (stepO acc t)]
    apply List.map_congr_left
    intro j _
    rfl
theorem rts_eq (ts : List Tr) : rts ts = rtR [] ts := by rw [← rtR_eq]; rfl
theorem subs_fold {l : List Nd} {b : Nat → Nat} (hl : l.length ≤ 4000) (hS : StU l b l.length) : ∀ (ks : List Int) (e s : Nat), s ≤ l.length → Fw b ks e s → (subTs l ks).foldl stepO (l.take e) = l.take s ∧ rtR (l.take e) (subTs l ks) = ks ∧ e ≤ s
  | [], e, s, _, h => by
    have h' : e = s := h
    subst h'
    exact ⟨rfl, rfl, Nat.le_refl _⟩
  | k :: ks, e, s, hs, h => by
    obtain ⟨m, rfl, h1, h2, h3⟩ := h
    have hms : m + 1 ≤ s := by
      have : ∀ (ks : List Int) (e s : Nat), Fw b ks e s → e ≤ s := fun ks => by
        induction ks with
        | nil => intro e s h; have h' : e = s := h; omega
        | cons k ks ih =>
          intro e s h
          obtain ⟨m, _, _, h4, h5⟩ := h
          have := ih _ _ h5
          omega
      exact this ks _ _ h3
    have hm : m < l.length := by omega
    obtain ⟨h4, h5, h6⟩ := subs_fold hl hS ks (m + 1) s hs h3
    have hlen : (l.take e).length = e := by rw [List.length_take]; omega
    have hst : stepO (l.take e) (subL l m, (subR l m : Int)) = l.take (m + 1) := by
      unfold stepO
      rw [hlen, ← h1, mv_back hl hS hm, take_drop_cat (by omega)]
    show (subTs l ks).foldl stepO (stepO (l.take e) (subL l (m : Int).toNat, (subR l (m : Int).toNat : Int))) = _ ∧ wrap64 (((l.take e).length : Int) + (subR l (m : Int).toNat : Int)) :: rtR (stepO (l.take e) (subL l (m : Int).toNat, (subR l (m : Int).toNat : Int))) (subTs l ks) = _ ∧ _
    rw [Int.toNat_natCast, hst]
    refine ⟨h4, ?_, by omega⟩
    rw [h5, hlen]
    congr 1
    unfold subR
    have e2 : stF l l.length m = b m := stF_is hS m hm
    rw [e2, wrap_small (by omega) (by omega)]
    omega
/-- a sound tree is its root over the trees of its kids -/
theorem over_subs {l : List Nd} {r : Int} (h : Snd l r) (x : Nd) (hx : l[l.length - 1]? = some x) : ovL x.kd x.n x.pl x.tx (subTs l x.ks) = l ∧ (ovA (subTs l x.ks)).length = l.length - 1 := by
  obtain ⟨b, h1, h2, h3, h4, h5⟩ := h
  have hlt : l.length - 1 < l.length := by omega
  have hkid : kidsAt l (l.length - 1) = x.ks := by
    rw [kidsAt_eq hlt]
    rw [List.getElem?_eq_getElem hlt] at hx
    rw [Option.some.inj hx]
  have hch := h4 (l.length - 1) hlt
  rw [hkid, h5] at hch
  have hfw := fw_of x.ks (l.length - 1) 0 (fun q hq => h4.le q (by omega)) hch
  obtain ⟨e1, e2, _⟩ := subs_fold h2 h4 x.ks 0 (l.length - 1) (by omega) hfw
  rw [List.take_zero] at e1 e2
  have e3 : ovA (subTs l x.ks) = l.take (l.length - 1) := e1
  refine ⟨?_, by rw [e3, List.length_take]; omega⟩
  unfold ovL
  rw [e3, rts_eq, e2]
  conv => rhs; rw [← List.take_append_drop (l.length - 1) l]
  congr 1
  rw [List.drop_eq_getElem_cons hlt, show l.length - 1 + 1 = l.length by omega, List.drop_length]
  rw [List.getElem?_eq_getElem hlt] at hx
  rw [Option.some.inj hx]
end Go.Proofs.Ytcnmkmdedeiffaa
