/- PROVED here: over sound trees a node makes a sound tree, if they are not too many. -/
import Derived.Test.YtcnmkmdedeiffaaBa
namespace Go.Proofs.Ytcnmkmdedeiffaa
open Go Go.RowKit

/-- sound trees one behind the other, with the places of their roots -/
structure Fo (acc : List Nd) (rs : List Int) (b d : Nat → Nat) (D : Nat) : Prop where
  st : StU acc b acc.length
  dp : DpU acc d acc.length
  ch : stK b rs.reverse acc.length = some 0
  dx : rs.foldl (fun a k => max a (d k.toNat)) 0 = D
theorem kids_left {acc ys : List Nd} {q : Nat} (h : q < acc.length) : kidsAt (acc ++ ys) q = kidsAt acc q := by
  rw [kidsAt_eq (show q < (acc ++ ys).length by rw [List.length_append]; omega), kidsAt_eq h, List.getElem_append_left h]
theorem kids_right {acc ys : List Nd} {q : Nat} (h : acc.length ≤ q) (h2 : q < acc.length + ys.length) : kidsAt (acc ++ ys) q = kidsAt ys (q - acc.length) := by
  rw [kidsAt_eq (show q < (acc ++ ys).length by rw [List.length_append]; omega), kidsAt_eq (show q - acc.length < ys.length by omega), List.getElem_append_right h]
theorem kids_mv {tl : List Nd} {b : Nat → Nat} {off q : Nat} (hS : StU tl b tl.length) (hl : tl.length ≤ 4000) (ho : off ≤ 1000000) (hq : q < tl.length) : kidsAt (tl.map (mvN (off : Int))) q = (kidsAt tl q).map fun k => k + (off : Int) := by
  rw [kidsAt_eq (show q < (tl.map (mvN (off : Int))).length by rw [List.length_map]; exact hq), List.getElem_map, kidsAt_eq hq]
  show List.map _ _ = _
  apply List.map_congr_left
  intro k hk
  have hk' : k ∈ kidsAt tl q := by rw [kidsAt_eq hq]; exact hk
  obtain ⟨m, rfl, hm, _⟩ := hS.kid hq hk'
  exact wrap_small (by omega) (by omega)
theorem Fo.step {acc : List Nd} {rs : List Int} {b d : Nat → Nat} {D : Nat} (h : Fo acc rs b d D) {t : Tr} (ht : Snd t.1 t.2) (hb : (stepO acc t).length ≤ 1000000) :
    ∃ b' d', Fo (stepO acc t) (rs ++ [wrap64 ((acc.length : Int) + t.2)]) b' d' (max D (dpt t.1 t.2)) := by
  have hdpt := dpt_yes ht
  obtain ⟨tl, tr⟩ := t
  obtain ⟨bt, h1, h2, h3, h4, h5⟩ := ht
  dsimp only at h1 h2 h3 h4 h5 hdpt
  have hlen : (stepO acc (tl, tr)).length = acc.length + tl.length := by unfold stepO; rw [List.length_append, List.length_map]
  rw [hlen] at hb
  obtain ⟨off, hoff⟩ : ∃ off, off = acc.length := ⟨_, rfl⟩
  have hD := dpL_U h4
  have hr : wrap64 ((acc.length : Int) + tr) = ((off + tl.length - 1 : Nat) : Int) := by rw [h3, wrap_small (by omega) (by omega)]; omega
  have hkl : ∀ q, q < off → kidsAt (stepO acc (tl, tr)) q = kidsAt acc q := fun q hq => kids_left (by omega)
  have hkr : ∀ q, off ≤ q → q < off + tl.length → kidsAt (stepO acc (tl, tr)) q = (kidsAt tl (q - off)).map fun k => k + (off : Int) := fun q hq hq2 => by
    show kidsAt (acc ++ tl.map (mvN (acc.length : Int))) q = _
    rw [kids_right (by omega) (by rw [List.length_map]; omega), ← hoff]
    exact kids_mv h4 h2 (by omega) (by omega)
  have hdc : dpt tl tr = dpL tl tl.length (tl.length - 1) := hdpt
  show ∃ b' d', Fo (stepO acc (tl, tr)) (rs ++ [wrap64 ((acc.length : Int) + tr)]) b' d' (max D (dpt tl tr))
  refine ⟨fun q => if q < off then b q else bt (q - off) + off, fun q => if q < off then d q else dpL tl tl.length (q - off), ?_, ?_, ?_, ?_⟩
  · intro q hq
    rw [hlen] at hq
    by_cases hq1 : q < off
    · rw [hkl q hq1]
      show _ = some (if q < off then b q else bt (q - off) + off)
      rw [if_pos hq1, ← h.st q (by omega)]
      refine (stK_congr _ q (fun r hr => ?_) (fun r hr => h.st.le r (by omega))).symm
      show b r = if r < off then b r else bt (r - off) + off
      rw [if_pos (by omega)]
    · rw [hkr q (by omega) (by omega), ← List.map_reverse]
      have := stK_up (d := off) (c := fun q => if q < off then b q else bt (q - off) + off) _ (q - off) _ (fun r hr => h4.le r (by omega)) (h4 (q - off) (by omega)) (fun r _ => by
        show (if r + off < off then b (r + off) else bt (r + off - off) + off) = bt r + off
        rw [if_neg (by omega), Nat.add_sub_cancel])
      rw [show q - off + off = q by omega] at this
      show _ = some (if q < off then b q else bt (q - off) + off)
      rw [if_neg hq1]
      exact this
  · intro q hq
    rw [hlen] at hq
    by_cases hq1 : q < off
    · rw [hkl q hq1]
      show (if q < off then d q else dpL tl tl.length (q - off)) = _
      rw [if_pos hq1, h.dp q (by omega)]
      refine dpK_congr fun k hk => ?_
      obtain ⟨m, rfl, hm, _⟩ := h.st.kid (show q < acc.length by omega) hk
      show d (m : Int).toNat = if (m : Int).toNat < off then d (m : Int).toNat else _
      rw [if_pos (by rw [Int.toNat_natCast]; omega)]
    · rw [hkr q (by omega) (by omega)]
      show (if q < off then d q else dpL tl tl.length (q - off)) = _
      rw [if_neg hq1, hD (q - off) (by omega)]
      refine (dpK_map fun k hk => ?_).symm
      obtain ⟨m, rfl, hm, _⟩ := h4.kid (show q - off < tl.length by omega) hk
      show (if ((m : Int) + (off : Int)).toNat < off then _ else dpL tl tl.length (((m : Int) + (off : Int)).toNat - off)) = dpL tl tl.length (m : Int).toNat
      rw [if_neg (by omega)]
      congr 1
      omega
  · rw [List.reverse_append, hr, hlen]
    show stK _ (((off + tl.length - 1 : Nat) : Int) :: rs.reverse) _ = _
    unfold stK
    rw [if_neg (by omega), if_pos (by omega)]
    show stK _ rs.reverse (if acc.length + tl.length - 1 < off then _ else bt (acc.length + tl.length - 1 - off) + off) = _
    rw [if_neg (by omega), show acc.length + tl.length - 1 - off = tl.length - 1 by omega, h5, Nat.zero_add, ← h.ch, hoff]
    refine (stK_congr _ acc.length (fun r hr => ?_) (fun r hr => h.st.le r hr)).symm
    show b r = if r < acc.length then b r else _
    rw [if_pos hr]
  · rw [List.foldl_append, hr]
    show max _ _ = _
    have hold : rs.foldl (fun a k => max a (if k.toNat < off then d k.toNat else dpL tl tl.length (k.toNat - off))) 0 = D := by
      rw [← h.dx]
      refine foldl_congr (f := fun k => if k.toNat < off then d k.toNat else dpL tl tl.length (k.toNat - off)) (g := fun k => d k.toNat) rs 0 fun k hk => ?_
      obtain ⟨m, rfl, hm, _⟩ := stK_mem _ _ _ (fun q hq => h.st.le q hq) h.ch k (List.mem_reverse.2 hk)
      show (if (m : Int).toNat < off then d (m : Int).toNat else _) = _
      rw [if_pos (by rw [Int.toNat_natCast]; omega)]
    rw [hold, hdc]
    congr 1
    show (if (((off + tl.length - 1 : Nat) : Int)).toNat < off then _ else dpL tl tl.length ((((off + tl.length - 1 : Nat) : Int)).toNat - off)) = _
    rw [Int.toNat_natCast, if_neg (by omega)]
    congr 1
    omega
theorem fold_len : ∀ (ts : List Tr) (acc : List Nd), acc.length ≤ (ts.foldl stepO acc).length
  | [], _ => Nat.le_refl _
  | t :: ts, acc => by
    rw [List.foldl_cons]
    refine Nat.le_trans ?_ (fold_len ts (stepO acc t))
    unfold stepO; rw [List.length_append]; omega
theorem fo_fold : ∀ (ts : List Tr) (acc : List Nd) (rs : List Int) (D : Nat), (∃ b d, Fo acc rs b d D) → (∀ t ∈ ts, Snd t.1 t.2) → (ts.foldl stepO acc).length ≤ 1000000 →
    ∃ b d, Fo (ts.foldl stepO acc) (rs ++ rtR acc ts) b d (ts.foldl (fun a t => max a (dpt t.1 t.2)) D)
  | [], acc, rs, D, h, _, _ => by
    show ∃ b d, Fo acc (rs ++ []) b d D
    rw [List.append_nil]; exact h
  | t :: ts, acc, rs, D, ⟨b, d, h⟩, ht, hl => by
    rw [List.foldl_cons] at hl
    have h1 := h.step (ht t (by simp)) (Nat.le_trans (fold_len ts _) hl)
    have h2 := fo_fold ts (stepO acc t) _ _ h1 (fun x hx => ht x (by simp [hx])) hl
    show ∃ b d, Fo (ts.foldl stepO (stepO acc t)) (rs ++ (wrap64 ((acc.length : Int) + t.2) :: rtR (stepO acc t) ts)) b d (ts.foldl (fun a t => max a (dpt t.1 t.2)) (max D (dpt t.1 t.2)))
    rw [show rs ++ (wrap64 ((acc.length : Int) + t.2) :: rtR (stepO acc t) ts) = rs ++ [wrap64 ((acc.length : Int) + t.2)] ++ rtR (stepO acc t) ts by rw [List.append_assoc]; rfl]
    exact h2
/-- how deep the deepest of some trees is -/
noncomputable def deepT (ts : List Tr) : Nat := ts.foldl (fun a t => max a (dpt t.1 t.2)) 0
theorem over_sound {kd n pl : Int} {tx : ByteArray} {ts : List Tr} (ht : ∀ t ∈ ts, Snd t.1 t.2) (hl : (ovA ts).length ≤ 1000000) (h4 : (ovL kd n pl tx ts).length ≤ 4000) :
    Snd (ovL kd n pl tx ts) ((ovA ts).length : Int) ∧ dpt (ovL kd n pl tx ts) ((ovA ts).length : Int) = deepT ts + 1 := by
  have h0 : ∃ b d, Fo [] [] b d 0 := ⟨fun _ => 0, fun _ => 0, ⟨fun q hq => absurd hq (Nat.not_lt_zero q), fun q hq => absurd hq (Nat.not_lt_zero q), rfl, rfl⟩⟩
  obtain ⟨b, d, hF⟩ := fo_fold ts [] [] 0 h0 ht hl
  rw [List.nil_append, ← rts_eq] at hF
  obtain ⟨acc, hacc⟩ : ∃ acc, acc = ovA ts := ⟨_, rfl⟩
  have hF' : Fo acc (rts ts) b d (deepT ts) := by rw [hacc]; exact hF
  have hL : ovL kd n pl tx ts = acc ++ [⟨kd, n, pl, tx, rts ts⟩] := by rw [hacc]; rfl
  rw [hL] at h4 ⊢
  rw [← hacc]
  have hlen : (acc ++ [(⟨kd, n, pl, tx, rts ts⟩ : Nd)]).length = acc.length + 1 := by rw [List.length_append]; rfl
  have hkl : ∀ q, q < acc.length → kidsAt (acc ++ [(⟨kd, n, pl, tx, rts ts⟩ : Nd)]) q = kidsAt acc q := fun q hq => kids_left hq
  have hkr : kidsAt (acc ++ [(⟨kd, n, pl, tx, rts ts⟩ : Nd)]) acc.length = rts ts := by
    rw [kids_right (Nat.le_refl _) (by show _ < _ + 1; omega), Nat.sub_self]; rfl
  have hS : StU (acc ++ [(⟨kd, n, pl, tx, rts ts⟩ : Nd)]) (fun q => if q < acc.length then b q else 0) (acc.length + 1) := fun q hq => by
    have hcg : ∀ (ks : List Int) (s : Nat), s ≤ acc.length → stK (fun q => if q < acc.length then b q else 0) ks s = stK b ks s := fun ks s hs =>
      (stK_congr ks s (fun r hr => by show b r = if r < acc.length then b r else 0; rw [if_pos (by omega)]) (fun r hr => hF'.st.le r (by omega))).symm
    by_cases hq1 : q < acc.length
    · rw [hkl q hq1, hcg _ _ (by omega), hF'.st q hq1]
      show _ = some (if q < acc.length then b q else 0)
      rw [if_pos hq1]
    · obtain rfl : q = acc.length := by omega
      rw [hkr, hcg _ _ (Nat.le_refl _), hF'.ch]
      show _ = some (if acc.length < acc.length then _ else 0)
      rw [if_neg (by omega)]
  have hD : DpU (acc ++ [(⟨kd, n, pl, tx, rts ts⟩ : Nd)]) (fun q => if q < acc.length then d q else deepT ts + 1) (acc.length + 1) := fun q hq => by
    by_cases hq1 : q < acc.length
    · rw [hkl q hq1]
      show (if q < acc.length then d q else _) = _
      rw [if_pos hq1, hF'.dp q hq1]
      refine dpK_congr fun k hk => ?_
      obtain ⟨m, rfl, hm, _⟩ := hF'.st.kid hq1 hk
      show d (m : Int).toNat = if (m : Int).toNat < acc.length then d (m : Int).toNat else _
      rw [if_pos (by rw [Int.toNat_natCast]; omega)]
    · obtain rfl : q = acc.length := by omega
      rw [hkr]
      show (if acc.length < acc.length then _ else deepT ts + 1) = _
      rw [if_neg (by omega), ← hF'.dx]
      show dpK d (rts ts) = _
      refine dpK_congr fun k hk => ?_
      obtain ⟨m, rfl, hm, _⟩ := stK_mem _ _ _ (fun q hq => hF'.st.le q hq) hF'.ch k (List.mem_reverse.2 hk)
      show d (m : Int).toNat = if (m : Int).toNat < acc.length then d (m : Int).toNat else _
      rw [if_pos (by rw [Int.toNat_natCast]; omega)]
  have hSd : Sd (acc ++ [(⟨kd, n, pl, tx, rts ts⟩ : Nd)]) (acc.length : Int) (fun q => if q < acc.length then b q else 0) := by
    refine ⟨by rw [hlen]; omega, h4, by rw [hlen]; omega, by rw [hlen]; exact hS, ?_⟩
    show (if _ < acc.length then _ else 0) = 0
    rw [hlen, if_neg (by omega)]
  refine ⟨⟨_, hSd⟩, ?_⟩
  rw [dpt_yes ⟨_, hSd⟩, hlen]
  have := (dpL_U hS).uniq hS hD acc.length (by omega)
  rw [show acc.length + 1 - 1 = acc.length by omega, this]
  show (if acc.length < acc.length then _ else deepT ts + 1) = _
  rw [if_neg (by omega)]
theorem not_sound_long {l : List Nd} {r : Int} (h : 4000 < l.length) : ¬ Snd l r := fun ⟨_, _, h2, _⟩ => by omega
end Go.Proofs.Ytcnmkmdedeiffaa
