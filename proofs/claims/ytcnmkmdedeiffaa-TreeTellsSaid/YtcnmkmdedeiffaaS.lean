/- PROVED here: plain facts on the tree of a node: it is sound, as deep as the node, and which node is its root. -/
import Derived.Test.YtcnmkmdedeiffaaH
namespace Go.Proofs.Ytcnmkmdedeiffaa
open Go Go.RowKit

theorem wrap_small {x : Int} (h1 : -4000000 ≤ x) (h2 : x ≤ 4000000) : wrap64 x = x := by
  unfold wrap64; omega
section
variable {l : List Nd} {b : Nat → Nat} {p : Nat}
theorem subL_get (hp : p < l.length) {q : Nat} (hq : q + stF l l.length p ≤ p) : (subL l p)[q]? = some (mvN (-(stF l l.length p : Int)) (nth l (q + stF l l.length p))) := by
  unfold subL
  rw [List.getElem?_map, List.getElem?_drop, List.getElem?_take, if_pos (by omega), List.getElem?_eq_getElem (by omega), nth_eq (by omega)]
  show some _ = some _
  congr 3
  omega
theorem subL_kids (hl : l.length ≤ 4000) (hS : StU l b l.length) (hp : p < l.length) {q : Nat} (hq : q + b p ≤ p) : kidsAt (subL l p) q = (kidsAt l (q + b p)).map fun k => k - (b p : Int) := by
  have e : stF l l.length p = b p := stF_is hS p hp
  have h1 := subL_get (l := l) hp (q := q) (by omega)
  rw [e] at h1
  have hlt : q < (subL l p).length := (List.getElem?_eq_some_iff.1 h1).1
  rw [kidsAt_eq hlt, (List.getElem?_eq_some_iff.1 h1).2, kidsAt_eq (show q + b p < l.length by omega), nth_eq (show q + b p < l.length by omega)]
  show List.map _ _ = _
  apply List.map_congr_left
  intro k hk
  have hk' : k ∈ kidsAt l (q + b p) := by rw [kidsAt_eq (show q + b p < l.length by omega)]; exact hk
  obtain ⟨m, rfl, hm, _⟩ := hS.kid (show q + b p < l.length by omega) hk'
  have := hS.le p hp
  rw [wrap_small (by omega) (by omega)]; rfl
theorem subL_st (hl : l.length ≤ 4000) (hS : StU l b l.length) (hp : p < l.length) : StU (subL l p) (fun q => b (q + b p) - b p) (p + 1 - b p) := fun q hq => by
  have hle := hS.le p hp
  have hn := hS.nested p hp (q + b p) (by omega) (by omega)
  rw [subL_kids hl hS hp (by omega), ← List.map_reverse]
  have := stK_down (d := b p) (c := fun q => b (q + b p) - b p) _ (q + b p) _ (fun r hr => hS.le r (by omega)) (hS (q + b p) (by omega)) hn (fun r _ => rfl)
  rw [Nat.add_sub_cancel] at this
  exact this
theorem subL_sd {r : Int} (h : Sd l r b) (hp : p < l.length) : Sd (subL l p) (subR l p : Int) (fun q => b (q + b p) - b p) := by
  obtain ⟨h1, h2, h3, h4, h5⟩ := h
  have e : stF l l.length p = b p := stF_is h4 p hp
  have hle := h4.le p hp
  have hlen : (subL l p).length = p + 1 - b p := by rw [subL_len hp, e]
  refine ⟨by rw [hlen]; omega, by rw [hlen]; omega, by rw [hlen]; unfold subR; rw [e]; omega, by rw [hlen]; exact subL_st h2 h4 hp, ?_⟩
  show b ((subL l p).length - 1 + b p) - b p = 0
  rw [hlen, show p + 1 - b p - 1 + b p = p by omega]
  omega
theorem subL_snd {r : Int} (h : Snd l r) (hp : p < l.length) : Snd (subL l p) (subR l p : Int) := h.elim fun _ h => ⟨_, subL_sd h hp⟩
theorem subL_dp {r : Int} (h : Snd l r) (hp : p < l.length) : dpt (subL l p) (subR l p : Int) = dpL l l.length p := by
  rw [dpt_yes (subL_snd h hp)]
  obtain ⟨b, h1, h2, h3, h4, h5⟩ := h
  have e : stF l l.length p = b p := stF_is h4 p hp
  have hle := h4.le p hp
  have hlen : (subL l p).length = p + 1 - b p := by rw [subL_len hp, e]
  rw [hlen]
  have hS := subL_st h2 h4 hp
  have hD : DpU (subL l p) (fun q => dpL l l.length (q + b p)) (p + 1 - b p) := fun q hq => by
    show dpL l l.length (q + b p) = _
    rw [dpL_U h4 (q + b p) (by omega), subL_kids h2 h4 hp (by omega)]
    refine (dpK_map fun k hk => ?_).symm
    obtain ⟨m, rfl, hm, hb⟩ := h4.kid (show q + b p < l.length by omega) hk
    have hn := h4.nested p hp (q + b p) (by omega) (by omega)
    have hm2 := h4.le m (by omega)
    show dpL l l.length (((m : Int) - (b p : Int)).toNat + b p) = dpL l l.length (m : Int).toNat
    congr 1
    omega
  have := (dpL_U hS).uniq hS hD (p - b p) (by omega)
  rw [show p + 1 - b p - 1 = p - b p by omega, this]
  show dpL l l.length (p - b p + b p) = _
  rw [show p - b p + b p = p by omega]
theorem dp_kid {r : Int} (h : Snd l r) (hp : p < l.length) {m : Nat} (hm : (m : Int) ∈ kidsAt l p) : m < l.length ∧ dpL l l.length m < dpL l l.length p := by
  obtain ⟨b, h1, h2, h3, h4, h5⟩ := h
  obtain ⟨m', e, h6, _⟩ := h4.kid hp hm
  have := dpK_lt (d := dpL l l.length) hm
  rw [← dpL_U h4 p hp] at this
  exact ⟨by omega, by simpa using this⟩
theorem dp_root {r : Int} (h : Snd l r) (hp : p < l.length) : dpL l l.length p ≤ dpt l r := by
  rw [dpt_yes h]
  obtain ⟨b, h1, h2, h3, h4, h5⟩ := h
  exact (dpL_U h4).within h4 (l.length - 1) (by omega) p (by omega) (by omega)
theorem dp_one {r : Int} (h : Snd l r) (hp : p < l.length) : dpL l l.length p = 1 ↔ kidsAt l p = [] := by
  obtain ⟨b, h1, h2, h3, h4, h5⟩ := h
  rw [dpL_U h4 p hp]
  refine dpK_nil fun k hk => ?_
  obtain ⟨m, rfl, hm, _⟩ := h4.kid hp hk
  exact (dpL_U h4).pos (by simp; omega)
theorem dp_le {r : Int} (h : Snd l r) (hp : p < l.length) : dpL l l.length p ≤ 4000 := by
  obtain ⟨b, h1, h2, h3, h4, h5⟩ := h
  have := (dpL_U h4).le h4 p hp
  omega
theorem subL_root {r : Int} (h : Snd l r) (hp : p < l.length) : ∃ hq : subR l p < (subL l p).length, ((subL l p)[subR l p]).kd = l[p].kd := by
  obtain ⟨b, h1, h2, h3, h4, h5⟩ := h
  have e : stF l l.length p = b p := stF_is h4 p hp
  have hle := h4.le p hp
  have hg := subL_get (l := l) hp (q := subR l p) (by unfold subR; omega)
  refine ⟨(List.getElem?_eq_some_iff.1 hg).1, ?_⟩
  rw [(List.getElem?_eq_some_iff.1 hg).2, show subR l p + stF l l.length p = p by unfold subR; omega, nth_eq hp]
  rfl
theorem not_snd_nil (r : Int) : ¬ Snd [] r := fun ⟨_, h, _⟩ => by simp at h
theorem subL_ks (h : ∀ x ∈ l, x.ks.length ≤ 4000) : ∀ x ∈ subL l p, x.ks.length ≤ 4000 := fun x hx => by
  unfold subL at hx
  obtain ⟨y, hy, rfl⟩ := List.mem_map.1 hx
  have := h y (List.mem_of_mem_take (List.mem_of_mem_drop hy))
  show (List.map _ _).length ≤ 4000
  rw [List.length_map]; exact this
end
end Go.Proofs.Ytcnmkmdedeiffaa
