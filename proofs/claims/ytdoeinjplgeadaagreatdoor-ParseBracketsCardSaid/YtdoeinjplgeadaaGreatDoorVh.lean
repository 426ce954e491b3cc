/- PROVED here: an expression's row of tokens, in brackets among other tokens, is parsed as it is alone; an expression in brackets, and two in brackets with a sign between, as the parser reads them, tokens without places; what the parser answers of an expression in brackets, and of two in brackets with a sign between, tokens without places; how an expression in brackets, and two in brackets with a sign between, are cut, and what the parser answers of them; what the parser answers of two expressions in brackets with a sign between is that sign over both; no text is a program and an expression; no text is a program and an expression, so Nest tells of an expression what is open in it; the walk of ParseBrackets; the walk of ParseBrackets, where both are expressions. No condition but those in each theorem's own head. -/
import Derived.Test.YtdoeinjplgeadaaGreatDoorUa
import Derived.Test.YtdoeinjplgeadaaGreatDoorUc
import Derived.Test.YtdoeinjplgeadaaGreatDoorTrOv
import Derived.Test.YtdoeinjplgeadaaGreatDoorQp
import Derived.Test.YtdoeinjplgeadaaGreatDoorRc
import Derived.BigQuiet
import Derived.StillTailTactics
namespace Go.Proofs.YtdoeinjplgeadaaGreatDoor
section
/-- a node's kids, moved -/
def up (c : Nat) (x : Nd) : Nd := { x with ks := x.ks.map (· + (c : Int)) }
/-- where a row of tokens lies among others: how many they are, where they begin, the nodes ahead, how many constructs are open there, and were at most -/
structure Pl where
  n : Nat
  d : Nat
  l0 : List Nd
  o : Nat
  m : Nat
def Pl.sh (P : Pl) (s : St) : St := ⟨s.nx + P.d, P.l0 ++ s.nd.map (up P.l0.length), s.op + P.o, max P.m (s.mo + P.o)⟩
def Pl.shV (P : Pl) (v : List Int) : List Int := v.map (· + (P.l0.length : Int))
theorem Pl.shV_app (P : Pl) (v u : List Int) : P.shV (v ++ u) = P.shV v ++ P.shV u := List.map_append
def eT : Tok := ⟨5, 0, 0, []⟩
structure Pl.In (P : Pl) (ts ts' : List Tok) : Prop where
  same : ∀ i, i < P.n → ts'.getD (i + P.d) eT = ts.getD i eT
  endK : (ts.getD P.n eT).k = 5
  endS : (ts.getD P.n eT).s = []
  finK : (ts'.getD (P.n + P.d) eT).k ≠ 1 ∧ (ts'.getD (P.n + P.d) eT).k ≠ 2
  finS : (ts'.getD (P.n + P.d) eT).s = [41]
/-- an answer, and what it is elsewhere -/
def Rel (P : Pl) (s : St) (q : Nat) (r r' : Rs) : Prop := ∀ v s1, r = .ok v s1 → s1.op = q ∧ s.mo ≤ s1.mo ∧ s1.nx ≤ P.n ∧ (s1.mo + P.o ≤ 40 → r' = .ok (P.shV v) (P.sh s1))
section
variable {P : Pl} {s : St} {q : Nat}
theorem Rel.no {p e : Nat} {r' : Rs} : Rel P s q (.no p e) r' := fun v s1 h => by cases h
theorem Rel.out {r' : Rs} : Rel P s q .out r' := fun v s1 h => by cases h
theorem Rel.ok (hs : s.nx ≤ P.n) (v : List Int) : Rel P s s.op (.ok v s) (.ok (P.shV v) (P.sh s)) := fun v s1 h => by
  injection h with h1 h2
  subst h1 h2
  exact ⟨rfl, Nat.le_refl _, hs, fun _ => rfl⟩
theorem Rel.bind {q2 : Nat} {r r' : Rs} {k k' : List Int → St → Rs} (h : Rel P s q r r') (hk : ∀ v s1, s1.nx ≤ P.n → s1.op = q → Rel P s1 q2 (k v s1) (k' (P.shV v) (P.sh s1))) : Rel P s q2 (r.bind k) (r'.bind k') := fun v s2 e => by
  obtain ⟨v1, s1, e1, e2⟩ := Rs.bind_ok e
  obtain ⟨a1, a2, a3, a4⟩ := h v1 s1 e1
  obtain ⟨b1, b2, b3, b4⟩ := hk v1 s1 a3 a1 v s2 e2
  refine ⟨b1, Nat.le_trans a2 b2, b3, fun hm => ?_⟩
  rw [a4 (by omega)]
  exact b4 hm
theorem Rel.ite {c c' : Prop} [Decidable c] [Decidable c'] {a b a' b' : Rs} (hc : c' ↔ c) (h1 : c → Rel P s q a a') (h2 : ¬ c → Rel P s q b b') : Rel P s q (if c then a else b) (if c' then a' else b') := by
  by_cases z : c
  · rw [if_pos z, if_pos (hc.2 z)]; exact h1 z
  · rw [if_neg z, if_neg (fun r => z (hc.1 r))]; exact h2 z
theorem Rel.from {s0 : St} {r r' : Rs} (h : Rel P s q r r') (hm : s0.mo ≤ s.mo) : Rel P s0 q r r' := fun v s1 e => by
  obtain ⟨a1, a2, a3, a4⟩ := h v s1 e
  exact ⟨a1, Nat.le_trans hm a2, a3, a4⟩
variable {ts ts' : List Tok} (hP : P.In ts ts')
theorem sh_take : P.sh (takeS s) = takeS (P.sh s) := by
  unfold Pl.sh takeS
  simp only [St.mk.injEq, and_self, and_true]
  omega
theorem rel_add (hs : s.nx ≤ P.n) (kd n pl : Int) (tx : List UInt8) (ks : List Int) : Rel P s s.op (addM kd n pl tx ks s) (addM kd n pl tx (P.shV ks) (P.sh s)) := fun v s1 e => by
  unfold addM at e
  injection e with e1 e2
  subst e1 e2
  refine ⟨rfl, Nat.le_refl _, hs, fun _ => ?_⟩
  unfold addM Pl.shV Pl.sh
  simp only [List.map_append, List.map_cons, List.map_nil, List.length_append, List.length_map, up, List.append_assoc]
  congr 2
  omega
include hP
theorem in_tk (h : s.nx < P.n) : tkn ts' (P.sh s) = tkn ts s := hP.same _ h
theorem in_end (hs : s.nx ≤ P.n) (h : ¬ s.nx < P.n) : (tkn ts s).k = 5 ∧ (tkn ts s).s = [] ∧ ((tkn ts' (P.sh s)).k ≠ 1 ∧ (tkn ts' (P.sh s)).k ≠ 2) ∧ (tkn ts' (P.sh s)).s = [41] := by
  have e : s.nx = P.n := by omega
  have e1 : tkn ts s = ts.getD P.n eT := by rw [← e]; rfl
  have e2 : tkn ts' (P.sh s) = ts'.getD (P.n + P.d) eT := by rw [← e]; rfl
  rw [e1, e2]
  exact ⟨hP.endK, hP.endS, hP.finK, hP.finS⟩
theorem in_sees (hs : s.nx ≤ P.n) (x : List UInt8) (hx : x ≠ []) (hx2 : x ≠ [41]) : sees ts' x (P.sh s) = true ↔ sees ts x s = true := by
  by_cases h : s.nx < P.n
  · unfold sees; rw [in_tk hP h]
  · obtain ⟨_, e1, _, e2⟩ := in_end hP hs h
    unfold sees
    rw [e1, e2]
    constructor
    · intro z; exact absurd (eq_of_beq z) (Ne.symm hx2)
    · intro z; exact absurd (eq_of_beq z) (Ne.symm hx)
theorem rel_exp (hs : s.nx ≤ P.n) (x : List UInt8) (hx : x ≠ []) : Rel P s s.op (expM ts x s) (expM ts' x (P.sh s)) := by
  by_cases h : s.nx < P.n
  · unfold expM
    refine Rel.ite (by unfold sees; rw [in_tk hP h]) (fun _ => ?_) (fun _ => Rel.no)
    rw [← sh_take]
    exact Rel.ok (s := takeS s) h []
  · obtain ⟨_, e1, _, e2⟩ := in_end hP hs h
    unfold expM
    rw [if_neg (by unfold sees; rw [e1]; intro z; exact absurd (eq_of_beq z) (Ne.symm hx))]
    exact Rel.no
theorem rel_name (hs : s.nx ≤ P.n) : Rel P s s.op (nameM ts s) (nameM ts' (P.sh s)) := by
  by_cases h : s.nx < P.n
  · unfold nameM
    rw [in_tk hP h]
    refine Rel.ite Iff.rfl (fun _ => ?_) (fun _ => Rel.no)
    rw [← sh_take]
    exact Rel.ok (s := takeS s) h []
  · obtain ⟨e1, _, _, e2⟩ := in_end hP hs h
    unfold nameM
    rw [if_neg (by rw [e1]; decide)]
    exact Rel.no
theorem rel_beg (hs : s.nx ≤ P.n) (x : List UInt8) (hx : x ≠ []) : Rel P s (s.op + 1) (begM ts x s) (begM ts' x (P.sh s)) := fun v s1 e => by
  unfold begM at e
  split at e
  · cases e
  rename_i hc
  obtain ⟨v1, s2, e1, e2⟩ := Rs.bind_ok e
  obtain ⟨a1, a2, a3, a4⟩ := rel_exp hP hs x hx v1 s2 e1
  injection e2 with e2 e3
  subst e2 e3
  have hse : sees ts x s = true := by
    unfold expM at e1
    split at e1
    · assumption
    · cases e1
  have hop : s.op ≠ 40 := fun z => hc ⟨hse, z⟩
  refine ⟨by show s2.op + 1 = _; rw [a1], by show s.mo ≤ max s2.mo (s2.op + 1); omega, a3, fun hm => ?_⟩
  have hm : max s2.mo (s2.op + 1) + P.o ≤ 40 := hm
  unfold begM
  rw [if_neg (fun z => by have : s.op + P.o = 40 := z.2; omega), a4 (by omega)]
  show Rs.ok [] _ = Rs.ok [] _
  congr 1
  unfold Pl.sh
  simp only [St.mk.injEq, true_and]
  omega
theorem rel_fin (hs : s.nx ≤ P.n) (x : List UInt8) (hx : x ≠ []) (ho : 1 ≤ s.op) : Rel P s (s.op - 1) (finM ts x s) (finM ts' x (P.sh s)) := fun v s1 e => by
  unfold finM at e
  obtain ⟨v1, s2, e1, e2⟩ := Rs.bind_ok e
  obtain ⟨a1, a2, a3, a4⟩ := rel_exp hP hs x hx v1 s2 e1
  injection e2 with e2 e3
  subst e2 e3
  refine ⟨by show s2.op - 1 = _; rw [a1], a2, a3, fun hm => ?_⟩
  unfold finM
  rw [a4 hm]
  show Rs.ok [] _ = Rs.ok [] _
  congr 1
  unfold Pl.sh
  simp only [St.mk.injEq, true_and, and_true]
  omega
end
/-- the rows of an expression -/
def RecIn (P : Pl) (rec rec' : Job → St → Rs) : Prop := ∀ s : St, s.nx ≤ P.n → Rel P s s.op (rec .una s) (rec' .una (P.sh s)) ∧ (∀ r, 1 ≤ r → Rel P s s.op (rec (.bin r) s) (rec' (.bin r) (P.sh s))) ∧ ∀ r l, 1 ≤ r → Rel P s s.op (rec (.loop r l) s) (rec' (.loop r (P.shV l)) (P.sh s))
section
variable {P : Pl} {ts ts' : List Tok} (hP : P.In ts ts') {rec rec' : Job → St → Rs} (hr : RecIn P rec rec') {s : St} (hs : s.nx ≤ P.n)
include hP hr hs
theorem rel_idx : Rel P s s.op (idxM ts rec s) (idxM ts' rec' (P.sh s)) := by
  unfold idxM
  refine Rel.bind (rel_beg hP hs [91] (by decide)) fun v1 s1 h1 o1 => ?_
  refine Rel.bind ((hr s1 h1).2.1 1 (Nat.le_refl _)) fun v2 s2 h2 o2 => ?_
  refine Rel.bind (rel_fin hP h2 [93] (by decide) (by omega)) fun v3 s3 h3 o3 => ?_
  have e : s3.op = s.op := by omega
  exact e ▸ Rel.ok h3 _
theorem rel_paren : Rel P s s.op ((begM ts [40] s).bind fun _ s => (exprM rec s).bind fun v s => (finM ts [41] s).bind fun _ s => .ok v s) ((begM ts' [40] (P.sh s)).bind fun _ s => (exprM rec' s).bind fun v s => (finM ts' [41] s).bind fun _ s => .ok v s) := by
  refine Rel.bind (rel_beg hP hs [40] (by decide)) fun v1 s1 h1 o1 => ?_
  refine Rel.bind ((hr s1 h1).2.1 1 (Nat.le_refl _)) fun v2 s2 h2 o2 => ?_
  refine Rel.bind (rel_fin hP h2 [41] (by decide) (by omega)) fun v3 s3 h3 o3 => ?_
  have e : s3.op = s.op := by omega
  exact e ▸ Rel.ok h3 _
theorem rel_una : Rel P s s.op (unaM ts rec s) (unaM ts' rec' (P.sh s)) := by
  by_cases h : s.nx < P.n
  · have ht := in_tk hP h
    have h1 : (takeS s).nx ≤ P.n := h
    unfold unaM
    simp only [ht, ← sh_take]
    refine Rel.ite Iff.rfl (fun _ => ?_) fun _ => ?_
    · unfold variM
      simp only [ht]
      refine Rel.bind (rel_name hP hs) fun v1 s1 a1 o1 => ?_
      rw [← o1]
      refine Rel.ite (in_sees hP a1 [91] (by decide) (by decide)) (fun _ => ?_) fun _ => ?_
      · exact Rel.bind (rel_idx hP hr a1) fun v2 s2 a2 o2 => o2 ▸ rel_add a2 _ _ _ _ _
      · exact rel_add a1 _ _ _ _ _
    refine Rel.ite Iff.rfl (fun _ => rel_add (s := takeS s) h1 _ _ _ _ _) fun _ => ?_
    refine Rel.ite Iff.rfl (fun z => ?_) fun _ => ?_
    · have hx : (tkn ts s).s ≠ [] := by rcases z with z | z <;> rw [z] <;> decide
      unfold signM
      simp only [ht]
      refine Rel.bind (rel_beg hP hs _ hx) fun v1 s1 a1 o1 => ?_
      refine Rel.bind (hr s1 a1).1 fun v2 s2 a2 o2 => ?_
      have e : (P.sh { s2 with op := s2.op - 1 }) = { P.sh s2 with op := (P.sh s2).op - 1 } := by
        unfold Pl.sh
        simp only [St.mk.injEq, true_and, and_true]
        omega
      have e2 : s.op = ({ s2 with op := s2.op - 1 } : St).op := by show s.op = s2.op - 1; omega
      rw [← e, e2]
      exact rel_add (s := { s2 with op := s2.op - 1 }) a2 _ _ _ _ _
    refine Rel.ite Iff.rfl (fun _ => rel_add (s := takeS s) h1 _ _ _ _ _) fun _ => ?_
    have hmark : ∀ kd, Rel P s s.op (markM ts kd s) (markM ts' kd (P.sh s)) := fun kd => by
      unfold markM
      simp only [ht, ← sh_take]
      by_cases h2 : (takeS s).nx < P.n
      · rw [in_tk hP h2]
        exact Rel.bind (rel_name hP (s := takeS s) h1) fun v2 s2 a2 o2 => (show s2.op = s.op from o2) ▸ rel_add a2 _ _ _ _ _
      · obtain ⟨e1, _, _, e2⟩ := in_end hP h1 h2
        unfold nameM
        rw [if_neg (by rw [e1]; decide)]
        exact Rel.no
    refine Rel.ite Iff.rfl (fun _ => hmark 24) fun _ => ?_
    refine Rel.ite Iff.rfl (fun _ => hmark 25) fun _ => ?_
    exact Rel.ite Iff.rfl (fun _ => rel_paren hP hr hs) fun _ => Rel.no
  · obtain ⟨e1, e2, _, _⟩ := in_end hP hs h
    have e : unaM ts rec s = .no (tkn ts s).p 2 := by
      unfold unaM
      simp only [e1, e2]
      rfl
    rw [e]
    exact Rel.no
omit hP in
theorem rel_bin (r : Nat) (h1 : 1 ≤ r) : Rel P s s.op (binM rec r s) (binM rec' r (P.sh s)) := by
  unfold binM
  refine Rel.ite Iff.rfl (fun _ => (hr s hs).1) fun _ => ?_
  exact Rel.bind ((hr s hs).2.1 (r + 1) (by omega)) fun v1 s1 a1 o1 => o1 ▸ (hr s1 a1).2.2 r v1 h1
theorem rel_loop (r : Nat) (l : List Int) (h1 : 1 ≤ r) : Rel P s s.op (loopM ts rec r l s) (loopM ts' rec' r (P.shV l) (P.sh s)) := by
  by_cases h : s.nx < P.n
  · have ht := in_tk hP h
    have h2 : (takeS s).nx ≤ P.n := h
    unfold loopM
    simp only [ht, ← sh_take]
    refine Rel.ite Iff.rfl (fun _ => ?_) fun _ => Rel.ok hs l
    refine (Rel.bind ((hr (takeS s) h2).2.1 (r + 1) (by omega)) fun v1 s1 a1 o1 => ?_).from (s := takeS s) (Nat.le_refl _)
    refine Rel.bind (q := s1.op) ?_ fun v2 s2 a2 o2 => ?_
    · rw [← P.shV_app]; exact rel_add a1 _ _ _ _ _
    · have e : s2.op = s.op := o2.trans o1
      exact e ▸ (hr s2 a2).2.2 r v2 h1
  · obtain ⟨e1, e2, _, e3⟩ := in_end hP hs h
    have n1 : ¬ rowOf (tkn ts s).s = r := by rw [e2]; show ¬ 0 = r; omega
    have n2 : ¬ rowOf (tkn ts' (P.sh s)).s = r := by rw [e3]; show ¬ 0 = r; omega
    unfold loopM
    simp only [if_neg n1, if_neg n2]
    exact Rel.ok hs l
end
theorem run_in {P : Pl} {ts ts' : List Tok} (hP : P.In ts ts') : ∀ (f g : Nat), f ≤ g → RecIn P (run ts f) (run ts' g)
  | 0, g, _ => fun s hs => ⟨Rel.out, fun _ _ => Rel.out, fun _ _ _ => Rel.out⟩
  | f + 1, 0, h => absurd h (by omega)
  | f + 1, g + 1, h => fun s hs => by
    have ih := run_in hP f g (by omega)
    exact ⟨rel_una hP ih hs, fun r h1 => rel_bin ih hs r h1, fun r l h1 => rel_loop hP ih hs r l h1⟩
end
section
/-- the brackets, and the end -/
def tO : Tok := ⟨3, 0, 0, [40]⟩
def tC : Tok := ⟨3, 0, 0, [41]⟩
/-- the row of tokens X, in brackets, ahead of it p, behind it r -/
theorem in_mid (X p r : List Tok) (l0 : List Nd) (o m : Nat) : (⟨X.length, p.length + 1, l0, o, m⟩ : Pl).In (X ++ [eT]) (p ++ tO :: (X ++ tC :: r)) := by
  have hend : (X ++ [eT]).getD X.length eT = eT := by simp [List.getD]
  have hfin : (p ++ tO :: (X ++ tC :: r)).getD (X.length + (p.length + 1)) eT = tC := by
    rw [List.getD_eq_getElem?_getD, List.getElem?_append_right (by omega)]
    rw [show X.length + (p.length + 1) - p.length = X.length + 1 by omega, List.getElem?_cons_succ, List.getElem?_append_right (Nat.le_refl _)]
    simp
  refine ⟨fun i hi => ?_, by show ((X ++ [eT]).getD X.length eT).k = 5; rw [hend]; rfl, by show ((X ++ [eT]).getD X.length eT).s = []; rw [hend]; rfl, ?_, ?_⟩
  · show (p ++ tO :: (X ++ tC :: r)).getD (i + (p.length + 1)) eT = (X ++ [eT]).getD i eT
    have hi : i < X.length := hi
    rw [List.getD_eq_getElem?_getD, List.getD_eq_getElem?_getD, List.getElem?_append_right (by omega), show i + (p.length + 1) - p.length = i + 1 by omega, List.getElem?_cons_succ, List.getElem?_append_left hi, List.getElem?_append_left hi]
  · show ((p ++ tO :: (X ++ tC :: r)).getD (X.length + (p.length + 1)) eT).k ≠ 1 ∧ _ ≠ 2
    constructor
    · rw [hfin]; decide
    · show ((p ++ tO :: (X ++ tC :: r)).getD (X.length + (p.length + 1)) eT).k ≠ 2
      rw [hfin]; decide
  · show ((p ++ tO :: (X ++ tC :: r)).getD (X.length + (p.length + 1)) eT).s = [41]
    rw [hfin]; rfl
/-- what an expression that is read whole comes to -/
theorem expr_parts {ts : List Tok} {v : List Int} {s' : St} (h : exprR ts = .ok v s') : run ts (steps ts) (.bin 1) st0 = .ok v s' ∧ (tkn ts s').k = 5 := by
  unfold exprR onlyM at h
  obtain ⟨v1, s1, h1, h⟩ := Rs.bind_ok h
  obtain ⟨v2, s2, h2, h⟩ := Rs.bind_ok h
  unfold endM at h2
  split at h2
  case isFalse => cases h2
  case isTrue hk =>
    injection h2 with h2 h3
    injection h with h4 h5
    subst h2 h3 h4 h5
    exact ⟨h1, hk⟩
/-- an operand: what stands in brackets -/
theorem una_in (X p r : List Tok) {v : List Int} {s' : St} (hX : ∀ t ∈ X, t.k ≠ 5) (h : exprR (X ++ [eT]) = .ok v s') (z : St) (hz : z.nx = p.length) (ho : z.op ≤ 39) (hm : s'.mo + z.op + 1 ≤ 40) (g : Nat) (hg : steps (X ++ [eT]) ≤ g) :
    run (p ++ tO :: (X ++ tC :: r)) (g + 1) .una z = .ok (v.map (· + (z.nd.length : Int))) ⟨p.length + X.length + 2, z.nd ++ s'.nd.map (up z.nd.length), z.op, max (max z.mo (z.op + 1)) (s'.mo + (z.op + 1))⟩ := by
  obtain ⟨h1, hk⟩ := expr_parts h
  obtain ⟨P, hPd⟩ : ∃ P : Pl, P = ⟨X.length, p.length + 1, z.nd, z.op + 1, max z.mo (z.op + 1)⟩ := ⟨_, rfl⟩
  obtain ⟨ts', hts⟩ : ∃ ts', ts' = p ++ tO :: (X ++ tC :: r) := ⟨_, rfl⟩
  have hP : P.In (X ++ [eT]) ts' := by rw [hPd, hts]; exact in_mid X p r _ _ _
  have hin := (run_in hP (steps (X ++ [eT])) g hg st0 (Nat.zero_le _)).2.1 1 (Nat.le_refl _) v s' h1
  obtain ⟨i1, i2, i3, i4⟩ := hin
  have i5 := i4 (by rw [hPd]; show s'.mo + (z.op + 1) ≤ 40; omega)
  have hnx : s'.nx = X.length := by
    rw [hPd] at i3
    have i3 : s'.nx ≤ X.length := i3
    by_cases e : s'.nx < X.length
    · exfalso
      have : tkn (X ++ [eT]) s' = X[s'.nx] := by
        unfold tkn
        rw [List.getD_eq_getElem?_getD, List.getElem?_append_left e, List.getElem?_eq_getElem e]; rfl
      rw [this] at hk
      exact hX _ (List.getElem_mem e) hk
    · omega
  have hop : s'.op = 0 := i1
  have htz : tkn ts' z = tO := by
    rw [hts]; unfold tkn
    rw [hz, List.getD_eq_getElem?_getD, List.getElem?_append_right (Nat.le_refl _), Nat.sub_self]; rfl
  have hst : P.sh st0 = { takeS z with op := z.op + 1, mo := max z.mo (z.op + 1) } := by
    rw [hPd]
    unfold Pl.sh takeS st0
    simp only [List.map_nil, List.append_nil, St.mk.injEq, true_and]
    omega
  have hsh : P.sh s' = ⟨X.length + (p.length + 1), z.nd ++ s'.nd.map (up z.nd.length), z.op + 1, max (max z.mo (z.op + 1)) (s'.mo + (z.op + 1))⟩ := by
    rw [hPd]
    unfold Pl.sh
    simp only [hnx, hop, Nat.zero_add]
  have hfin : tkn ts' (P.sh s') = tC := by
    have := (hP.finS)
    rw [hsh, hts]; unfold tkn
    rw [List.getD_eq_getElem?_getD, List.getElem?_append_right (by show p.length ≤ X.length + (p.length + 1); omega)]
    show ((tO :: (X ++ tC :: r))[X.length + (p.length + 1) - p.length]?).getD _ = _
    rw [show X.length + (p.length + 1) - p.length = X.length + 1 by omega, List.getElem?_cons_succ, List.getElem?_append_right (Nat.le_refl _)]
    simp
  have hV : P.shV v = v.map (· + (z.nd.length : Int)) := by rw [hPd]; rfl
  rw [← hts]
  show unaM ts' (run ts' g) z = _
  unfold unaM
  simp only [htz]
  rw [if_neg (by decide), if_neg (by decide), if_neg (by decide), if_neg (by decide), if_neg (by decide), if_neg (by decide), if_pos (by decide)]
  have hbeg : begM ts' [40] z = .ok [] (P.sh st0) := by
    unfold begM expM
    rw [if_neg (fun q => by have := q.2; omega), if_pos (by unfold sees; rw [htz]; rfl), hst]
    rfl
  rw [hbeg]
  show (run ts' g (.bin 1) (P.sh st0)).bind _ = _
  rw [i5]
  show (finM ts' [41] (P.sh s')).bind _ = _
  have hf : finM ts' [41] (P.sh s') = .ok [] { takeS (P.sh s') with op := (P.sh s').op - 1 } := by
    unfold finM expM
    rw [if_pos (by unfold sees; rw [hfin]; rfl)]; rfl
  rw [hf]
  show Rs.ok _ _ = Rs.ok _ _
  rw [hV, hsh]
  congr 1
  unfold takeS
  simp only [St.mk.injEq, true_and, and_true]
  exact ⟨by omega, by omega⟩
/-- an operand of which no sign of a row from r on stands behind is one of that row -/
theorem bin_una {ts : List Tok} {s s1 : St} {v : List Int} {f : Nat} (hf : 1 ≤ f) (h : ∀ g, f ≤ g → run ts g .una s = .ok v s1) : ∀ (k r : Nat), r + k = 6 → 1 ≤ r → (∀ q, r ≤ q → q ≤ 5 → rowOf (tkn ts s1).s ≠ q) → ∀ g, f + k + 1 ≤ g → run ts g (.bin r) s = .ok v s1
  | 0, r, hr, h1, _, g + 1, hg => by
    show binM (run ts g) r s = _
    unfold binM
    rw [if_pos (by omega)]
    exact h g (by omega)
  | k + 1, r, hr, h1, hq, g + 1, hg => by
    show binM (run ts g) r s = _
    unfold binM
    rw [if_neg (by omega), bin_una hf h k (r + 1) (by omega) (by omega) (fun q a b => hq q (by omega) b) g (by omega)]
    show run ts g (.loop r v) s1 = _
    obtain ⟨g', rfl⟩ : ∃ g', g = g' + 1 := ⟨g - 1, by omega⟩
    show loopM ts (run ts g') r v s1 = _
    unfold loopM
    rw [if_neg (hq r (Nat.le_refl _) (by omega))]
/-- a row of which the row behind it is known, and of which no sign stands behind that, up from it -/
theorem bin_up {ts : List Tok} {s s1 : St} {v : List Int} {f r0 : Nat} (hf : 1 ≤ f) (h : ∀ g, f ≤ g → run ts g (.bin r0) s = .ok v s1) (h0 : r0 ≤ 6) : ∀ (k r : Nat), r + k = r0 → 1 ≤ r → (∀ q, r ≤ q → q < r0 → rowOf (tkn ts s1).s ≠ q) → ∀ g, f + k ≤ g → run ts g (.bin r) s = .ok v s1
  | 0, r, hr, h1, _, g, hg => by
    obtain rfl : r = r0 := by omega
    exact h g (by omega)
  | k + 1, r, hr, h1, hq, g + 1, hg => by
    show binM (run ts g) r s = _
    unfold binM
    rw [if_neg (by omega), bin_up hf h h0 k (r + 1) (by omega) (by omega) (fun q a b => hq q (by omega) b) g (by omega)]
    show run ts g (.loop r v) s1 = _
    obtain ⟨g', rfl⟩ : ∃ g', g = g' + 1 := ⟨g - 1, by omega⟩
    show loopM ts (run ts g') r v s1 = _
    unfold loopM
    rw [if_neg (hq r (Nat.le_refl _) (by omega))]
  | k + 1, r, hr, h1, _, 0, hg => absurd hg (by omega)
end
section
theorem bind_okk (v : List Int) (s : St) (k : List Int → St → Rs) : (Rs.ok v s).bind k = k v s := rfl
theorem up_0 (l : List Nd) : l.map (up 0) = l := by
  rw [List.map_congr_left (g := id) (fun x _ => by
    unfold up
    rw [List.map_congr_left (g := id) (fun k _ => by show k + ((0 : Nat) : Int) = k; omega), List.map_id]; rfl), List.map_id]
theorem add_0 (v : List Int) : v.map (· + ((0 : Nat) : Int)) = v := by
  rw [List.map_congr_left (g := id) (fun k _ => by show k + ((0 : Nat) : Int) = k; omega), List.map_id]
theorem at_pos (p : List Tok) (t : Tok) (r : List Tok) (s : St) (h : s.nx = p.length) : tkn (p ++ t :: r) s = t := by
  unfold tkn
  rw [h, List.getD_eq_getElem?_getD, List.getElem?_append_right (Nat.le_refl _), Nat.sub_self]; rfl
theorem steps_app (X : List Tok) : steps (X ++ [eT]) = 10 * X.length + 20 := by unfold steps; rw [List.length_append]; show 10 * (X.length + 1) + 10 = _; omega
theorem one_in (X : List Tok) {v : List Int} {s' : St} (hX : ∀ t ∈ X, t.k ≠ 5) (h : exprR (X ++ [eT]) = .ok v s') (hm : s'.mo ≤ 38) : ∃ s2 : St, exprR (tO :: (X ++ [tC, eT])) = .ok v s2 ∧ s2.nd = s'.nd := by
  have hu := fun g hg => una_in X [] [eT] hX h st0 rfl (by decide) (by show s'.mo + 0 + 1 ≤ 40; omega) g hg
  have e0 : [] ++ tO :: (X ++ tC :: [eT]) = tO :: (X ++ [tC, eT]) := rfl
  rw [e0] at hu
  generalize hS : (⟨([] : List Tok).length + X.length + 2, st0.nd ++ s'.nd.map (up st0.nd.length), st0.op, max (max st0.mo (st0.op + 1)) (s'.mo + (st0.op + 1))⟩ : St) = S at hu
  have hv : v.map (· + (st0.nd.length : Int)) = v := add_0 v
  rw [hv] at hu
  have hnd : S.nd = s'.nd := by rw [← hS]; show [] ++ s'.nd.map (up 0) = _; rw [up_0]; rfl
  have hnx : S.nx = (tO :: (X ++ [tC])).length := by rw [← hS]; simp
  have ht : tkn (tO :: (X ++ [tC, eT])) S = eT := by
    have := at_pos (tO :: (X ++ [tC])) eT [] S hnx
    rwa [show tO :: (X ++ [tC]) ++ [eT] = tO :: (X ++ [tC, eT]) by simp] at this
  refine ⟨S, ?_, hnd⟩
  have hl : steps (tO :: (X ++ [tC, eT])) = 10 * X.length + 40 := by unfold steps; simp; omega
  have hb := bin_una (ts := tO :: (X ++ [tC, eT])) (s := st0) (s1 := S) (v := v) (f := steps (X ++ [eT]) + 1) (by omega) (fun g hg => by
    obtain ⟨g', rfl⟩ : ∃ g', g = g' + 1 := ⟨g - 1, by omega⟩
    exact hu g' (by omega)) 5 1 rfl (Nat.le_refl _) (fun q a b => by rw [ht]; show ¬ 0 = q; omega) (steps (tO :: (X ++ [tC, eT]))) (by rw [hl, steps_app]; omega)
  unfold exprR onlyM exprM
  rw [hb]
  show (endM (tO :: (X ++ [tC, eT])) S).bind _ = _
  unfold endM
  rw [ht, if_pos (by rfl)]
  rfl
theorem two_in (X Y : List Tok) (x : List UInt8) (q : Nat) {v u : List Int} {s t : St} (hX : ∀ t ∈ X, t.k ≠ 5) (hY : ∀ t ∈ Y, t.k ≠ 5) (h : exprR (X ++ [eT]) = .ok v s) (h' : exprR (Y ++ [eT]) = .ok u t) (hm : s.mo ≤ 38) (hm' : t.mo ≤ 38)
    (hq : rowOf x = q) (q1 : 1 ≤ q) (q5 : q ≤ 5) : ∃ (w : List Int) (s2 : St), exprR (tO :: (X ++ tC :: ⟨3, 0, 0, x⟩ :: tO :: (Y ++ [tC, eT]))) = .ok w s2 ∧ s2.nd = s.nd ++ t.nd.map (up s.nd.length) ++ [⟨27, 0, 0, x, v ++ u.map (· + (s.nd.length : Int))⟩] := by
  obtain ⟨tS, htS⟩ : ∃ tS : Tok, tS = ⟨3, 0, 0, x⟩ := ⟨_, rfl⟩
  obtain ⟨ts, hts⟩ : ∃ ts, ts = tO :: (X ++ tC :: ⟨3, 0, 0, x⟩ :: tO :: (Y ++ [tC, eT])) := ⟨_, rfl⟩
  have hl : steps ts = 10 * X.length + 10 * Y.length + 70 := by rw [hts]; unfold steps; simp; omega
  have hu := fun g hg => una_in X [] (tS :: tO :: (Y ++ [tC, eT])) hX h st0 rfl (by decide) (by show s.mo + 0 + 1 ≤ 40; omega) g hg
  rw [show [] ++ tO :: (X ++ tC :: tS :: tO :: (Y ++ [tC, eT])) = ts by rw [hts, htS]; rfl] at hu
  generalize hS : (⟨([] : List Tok).length + X.length + 2, st0.nd ++ s.nd.map (up st0.nd.length), st0.op, max (max st0.mo (st0.op + 1)) (s.mo + (st0.op + 1))⟩ : St) = S at hu
  rw [show v.map (· + (st0.nd.length : Int)) = v from add_0 v] at hu
  have hnd : S.nd = s.nd := by rw [← hS]; show [] ++ s.nd.map (up 0) = _; rw [up_0]; rfl
  have hop : S.op = 0 := by rw [← hS]; rfl
  have hnx : S.nx = X.length + 2 := by rw [← hS]; simp
  have ht : tkn ts S = tS := by
    have := at_pos (tO :: (X ++ [tC])) tS (tO :: (Y ++ [tC, eT])) S (by rw [hnx]; simp)
    rwa [show tO :: (X ++ [tC]) ++ tS :: tO :: (Y ++ [tC, eT]) = ts by rw [hts, htS]; simp] at this
  have hrow : rowOf (tkn ts S).s = q := by rw [ht, htS]; exact hq
  have hb1 := bin_una (ts := ts) (s := st0) (s1 := S) (v := v) (f := steps (X ++ [eT]) + 1) (by omega) (fun g hg => by
    obtain ⟨g', rfl⟩ : ∃ g', g = g' + 1 := ⟨g - 1, by omega⟩
    exact hu g' (by omega)) (5 - q) (q + 1) (by omega) (by omega) (fun q' a b => by rw [hrow]; omega)
  rw [steps_app] at hb1
  have hpl : (takeS S).nx = (tO :: (X ++ [tC, tS])).length := by show S.nx + 1 = _; rw [hnx]; simp
  have hu2 := fun g hg => una_in Y (tO :: (X ++ [tC, tS])) [eT] hY h' (takeS S) hpl (by show S.op ≤ 39; omega) (by show t.mo + S.op + 1 ≤ 40; omega) g hg
  rw [show tO :: (X ++ [tC, tS]) ++ tO :: (Y ++ tC :: [eT]) = ts by rw [hts, htS]; simp] at hu2
  generalize hS2 : (⟨(tO :: (X ++ [tC, tS])).length + Y.length + 2, (takeS S).nd ++ t.nd.map (up (takeS S).nd.length), (takeS S).op, max (max (takeS S).mo ((takeS S).op + 1)) (t.mo + ((takeS S).op + 1))⟩ : St) = S2 at hu2
  have htn : (takeS S).nd = s.nd := hnd
  rw [htn] at hu2
  have hnd2 : S2.nd = s.nd ++ t.nd.map (up s.nd.length) := by rw [← hS2]; show (takeS S).nd ++ t.nd.map (up (takeS S).nd.length) = _; rw [htn]
  have hnx2 : S2.nx = (tO :: (X ++ [tC, tS]) ++ tO :: (Y ++ [tC])).length := by rw [← hS2]; simp; omega
  have hend : ∀ z : St, z.nx = S2.nx → tkn ts z = eT := fun z hz => by
    have := at_pos (tO :: (X ++ [tC, tS]) ++ tO :: (Y ++ [tC])) eT [] z (by rw [hz, hnx2])
    rwa [show tO :: (X ++ [tC, tS]) ++ tO :: (Y ++ [tC]) ++ [eT] = ts by rw [hts, htS]; simp] at this
  have hb2 := bin_una (ts := ts) (s := takeS S) (s1 := S2) (v := u.map (· + (s.nd.length : Int))) (f := steps (Y ++ [eT]) + 1) (by omega) (fun g hg => by
    obtain ⟨g', rfl⟩ : ∃ g', g = g' + 1 := ⟨g - 1, by omega⟩
    exact hu2 g' (by omega)) (5 - q) (q + 1) (by omega) (by omega) (fun q' a b => by rw [hend _ rfl]; show ¬ 0 = q'; omega)
  rw [steps_app] at hb2
  obtain ⟨S3, hS3⟩ : ∃ S3 : St, S3 = { S2 with nd := S2.nd ++ [⟨27, 0, 0, x, v ++ u.map (· + (s.nd.length : Int))⟩] } := ⟨_, rfl⟩
  have hend3 : tkn ts S3 = eT := hend _ (by rw [hS3])
  have hbq : ∀ g, 10 * X.length + 10 * Y.length + 60 ≤ g → run ts g (.bin q) st0 = .ok [(S2.nd.length : Int)] S3 := fun g hg => by
    obtain ⟨g, rfl⟩ : ∃ g', g = g' + 3 := ⟨g - 3, by omega⟩
    show binM (run ts (g + 2)) q st0 = _
    unfold binM
    rw [if_neg (by omega), hb1 (g + 2) (by omega)]
    show loopM ts (run ts (g + 1)) q v S = _
    unfold loopM
    rw [if_pos hrow]
    rw [hb2 (g + 1) (by omega)]
    rw [bind_okk]
    have ea : addM 27 0 (tkn ts S).p (tkn ts S).s (v ++ u.map (· + (s.nd.length : Int))) S2 = .ok [(S2.nd.length : Int)] S3 := by
      rw [ht, htS, hS3]; rfl
    rw [ea]
    show loopM ts (run ts g) q [(S2.nd.length : Int)] S3 = _
    unfold loopM
    rw [if_neg (by rw [hend3]; show ¬ 0 = q; omega)]
  have hb := bin_up (ts := ts) (s := st0) (s1 := S3) (v := [(S2.nd.length : Int)]) (f := 10 * X.length + 10 * Y.length + 60) (r0 := q) (by omega) hbq (by omega) (q - 1) 1 (by omega) (Nat.le_refl _) (fun q' a b => by rw [hend3]; show ¬ 0 = q'; omega) (steps ts) (by rw [hl]; omega)
  refine ⟨[(S2.nd.length : Int)], S3, ?_, by rw [hS3]; show S2.nd ++ _ = _; rw [hnd2]⟩
  rw [← hts]
  unfold exprR onlyM exprM
  rw [hb]
  show (endM ts S3).bind _ = _
  unfold endM
  rw [hend3, if_pos (by rfl)]
  rfl
end
section
namespace Tk
open Go Go.RowKit

theorem pc40 (t : List UInt8) : pc (40 :: t) = [40] := by
  cases t with
  | nil => rfl
  | cons d t =>
    have h : signB [40, d] = false := by simp [signB]
    show (if wdB 40 = true then 40 :: (d :: t).takeWhile wdB else if signB [40, d] = true then [40, d] else [40]) = _
    rw [if_neg (by decide), h]; rfl
theorem pc41 (t : List UInt8) : pc (41 :: t) = [41] := by
  cases t with
  | nil => rfl
  | cons d t =>
    have h : signB [41, d] = false := by simp [signB]
    show (if wdB 41 = true then 41 :: (d :: t).takeWhile wdB else if signB [41, d] = true then [41, d] else [41]) = _
    rw [if_neg (by decide), h]; rfl
theorem noP_app (ts : List Tok) (r : Res) : noP (r.pre ts) = (noP r).map (ts.map strip ++ ·) := by
  cases r with
  | bad p => rfl
  | ok us => show some ((ts ++ us).map strip) = some (ts.map strip ++ us.map strip); rw [List.map_append]
theorem cut_o (i : Nat) (t : List UInt8) : noP (cutL i (40 :: t)) = (noP (cutL 0 t)).map ((3, 0, [40]) :: ·) := by
  rw [cutL_tok (by rfl) (by rfl) (by rw [pc40]; decide), noP_pre, pc40, cutL_move _ _ 0 _ (Nat.le_refl _)]
  have e : strip (oneT i [40]) = (3, 0, [40]) := rfl
  rw [e]; rfl
theorem cut_c (i : Nat) (t : List UInt8) : noP (cutL i (41 :: t)) = (noP (cutL 0 t)).map ((3, 0, [41]) :: ·) := by
  rw [cutL_tok (by rfl) (by rfl) (by rw [pc41]; decide), noP_pre, pc41, cutL_move _ _ 0 _ (Nat.le_refl _)]
  have e : strip (oneT i [41]) = (3, 0, [41]) := rfl
  rw [e]; rfl
/-- the signs between two expressions -/
def sgns : List (List UInt8) := [[43], [45], [42], [47], [37], [61, 61], [33, 61], [60], [60, 61], [62], [62, 61], [38, 38], [124, 124]]
theorem sgn_pc : ∀ x ∈ sgns, ∃ c w', x = c :: w' ∧ spB c = false ∧ cmB c = false ∧ (∀ r, pc (x ++ 40 :: r) = x) ∧ tokK x = 3 ∧ tokN x = 0 := by
  intro x hx
  simp only [sgns, List.mem_cons, List.not_mem_nil, or_false] at hx
  rcases hx with rfl | rfl | rfl | rfl | rfl | rfl | rfl | rfl | rfl | rfl | rfl | rfl | rfl <;> exact ⟨_, _, rfl, by decide, by decide, fun r => rfl, by decide, by decide⟩
theorem cut_s (i : Nat) (x : List UInt8) (hx : x ∈ sgns) (r : List UInt8) : noP (cutL i (x ++ 40 :: r)) = (noP (cutL 0 (40 :: r))).map ((3, 0, x) :: ·) := by
  obtain ⟨c, w', e, h1, h2, h3, h4, h5⟩ := sgn_pc x hx
  have h3 := h3 r
  have e2 : x ++ 40 :: r = c :: (w' ++ 40 :: r) := by rw [e]; rfl
  rw [e2] at h3 ⊢
  rw [cutL_tok h1 h2 (by rw [h3, h4]; decide), noP_pre, h3]
  have e3 : (c :: (w' ++ 40 :: r)).drop x.length = 40 :: r := by rw [← e2, List.drop_left]
  rw [e3, cutL_move _ _ 0 _ (Nat.le_refl _)]
  have e4 : strip (oneT i x) = (3, 0, x) := by unfold strip oneT; simp only [h4, h5]
  rw [e4]
/-- a text that can be cut, a line feed, and another text -/
theorem cut_in {l : List UInt8} {us : List Tok} (h : cutR l 0 = .ok us) (i : Nat) (t : List UInt8) : noP (cutL i (l ++ 10 :: t)) = (noP (cutL 0 t)).map ((us.map strip).dropLast ++ ·) := by
  rw [cutR_0] at h
  have h2 := cutL_move l.length i 0 l (Nat.le_refl _)
  rw [h] at h2
  obtain ⟨vs, hv, hs⟩ := noP_ok (x := us.map strip) h2
  rw [cutL_rows t l.length i l (Nat.le_refl _), hv]
  show noP ((cutL (i + l.length + 1) t).pre vs.dropLast) = _
  rw [noP_app, cutL_move _ _ 0 _ (Nat.le_refl _), List.map_dropLast, hs]
theorem cut_one {l : List UInt8} {us : List Tok} (h : cutR l 0 = .ok us) : noP (cutR (40 :: (l ++ [10, 41])) 0) = some ((3, 0, [40]) :: ((us.map strip).dropLast ++ [(3, 0, [41]), (5, 0, [])])) := by
  rw [cutR_0, cut_o, show l ++ [10, 41] = l ++ 10 :: [41] from rfl, cut_in h, cut_c]
  rfl
theorem cut_two {l l' : List UInt8} {us us' : List Tok} (h : cutR l 0 = .ok us) (h' : cutR l' 0 = .ok us') (x : List UInt8) (hx : x ∈ sgns) : noP (cutR (40 :: (l ++ 10 :: 41 :: (x ++ 40 :: (l' ++ [10, 41])))) 0) =
    some ((3, 0, [40]) :: ((us.map strip).dropLast ++ (3, 0, [41]) :: (3, 0, x) :: (3, 0, [40]) :: ((us'.map strip).dropLast ++ [(3, 0, [41]), (5, 0, [])]))) := by
  rw [cutR_0, cut_o, cut_in h, cut_c, cut_s _ x hx, cut_o, show l' ++ [10, 41] = l' ++ 10 :: [41] from rfl, cut_in h', cut_c]
  rfl
end Tk
open Go Go.RowKit

/-- a token without its place, of what is cut -/
def gT (x : Nat × Int × List UInt8) : Tok := ⟨x.1, x.2.1, 0, x.2.2⟩
theorem er_gT (us : List Tk.Tok) : (us.map cvT).map erT = (us.map Tk.strip).map gT := by rw [List.map_map, List.map_map]; rfl
theorem erR_ok {r : Rs} {v : List Int} {s : St} (h : erR r = .ok v s) : ∃ s', r = .ok v s' ∧ erS s' = s := by
  cases r with
  | out => cases h
  | no p e => cases h
  | ok v' s' => injection h with h1 h2; subst h1; exact ⟨s', rfl, h2⟩
/-- the tokens of a text but the end, without places -/
def XT (us : List Tk.Tok) : List Tok := ((us.map Tk.strip).dropLast).map gT
theorem xt_parts {l : List UInt8} {us : List Tk.Tok} (h : Tk.cutR l 0 = .ok us) : (us.map cvT).map erT = XT us ++ [eT] ∧ ∀ t ∈ XT us, t.k ≠ 5 := by
  obtain ⟨xs, n, e, h5, _⟩ := Tk.cut_parts h
  have e2 : us.map Tk.strip = xs.map Tk.strip ++ [(5, 0, [])] := by rw [e, List.map_append]; rfl
  have e3 : XT us = (xs.map Tk.strip).map gT := by unfold XT; rw [e2, List.dropLast_concat]
  refine ⟨by rw [er_gT, e2, List.map_append, e3]; rfl, fun t ht => ?_⟩
  rw [e3, List.map_map] at ht
  obtain ⟨u, hu, rfl⟩ := List.mem_map.1 ht
  exact h5 u hu
/-- what an answer that is an expression rests on -/
theorem good_parts {l : List UInt8} {nd : List Nd} {k : Nat} (h : ansOf exprR l = .good nd k) : ∃ (us : List Tk.Tok) (v : List Int) (s : St), Tk.cutR l 0 = .ok us ∧ exprR (us.map cvT) = .ok v s ∧ s.nd = nd ∧ s.mo = k ∧ nd.length ≤ 4000 ∧ Tr.dpt (nd.map cvN) ((nd.length : Int) - 1) ≤ 40 ∧ exprR (XT us ++ [eT]) = .ok v (erS s) := by
  cases hc : Tk.cutR l 0 with
  | bad p => rw [ansOf_cut hc] at h; cases h
  | ok us =>
    rcases (exprR_ok (ts_ok hc)).cases with ⟨v, s, q, _⟩ | ⟨p', e', q, _, _⟩
    case inr => rw [ansOf_no hc q] at h; cases h
    rw [ansOf_ok hc q] at h
    split at h
    · cases h
    split at h
    · cases h
    rename_i h4 h5
    injection h with h1 h2
    subst h1 h2
    refine ⟨us, v, s, rfl, q, rfl, rfl, by omega, by omega, ?_⟩
    rw [← (xt_parts hc).1, er_exprR, q]; rfl
theorem brk_one {l : List UInt8} {nd : List Nd} {k : Nat} (h : ansOf exprR l = .good nd k) (hk : k ≤ 38) : ∃ nd' k', ansOf exprR (40 :: (l ++ [10, 41])) = .good nd' k' ∧ nd.map erN = nd'.map erN := by
  obtain ⟨us, v, s, hc, hx, rfl, rfl, hl, hd, hX⟩ := good_parts h
  obtain ⟨e1, e5⟩ := xt_parts hc
  obtain ⟨s2, hs2, hn2⟩ := one_in (XT us) e5 hX hk
  obtain ⟨ws, hw, hws⟩ := Tk.noP_ok (Tk.cut_one hc)
  have ht : (ws.map cvT).map erT = tO :: (XT us ++ [tC, eT]) := by
    rw [er_gT, hws, List.map_cons, List.map_append]; rfl
  have hr := er_exprR (ws.map cvT)
  rw [ht, hs2] at hr
  obtain ⟨s', hs', he⟩ := erR_ok hr.symm
  have hn : s.nd.map erN = s'.nd.map erN := by
    have : (erS s').nd = s2.nd := by rw [he]
    rw [hn2] at this; exact this.symm
  have hle : s'.nd.length = s.nd.length := by have := congrArg List.length hn; simpa using this.symm
  refine ⟨s'.nd, s'.mo, ?_, hn⟩
  rw [ansOf_ok hw hs', if_neg (by omega), if_neg ?_]
  rw [← (likeN_of hn).dpt, hle]; omega
end
section
open Go Go.RowKit

/-- an expression has one root, the last node, and is sound -/
theorem expr_root {l : List UInt8} {us : List Tk.Tok} {v : List Int} {s : St} (hc : Tk.cutR l 0 = .ok us) (h : exprR (us.map cvT) = .ok v s) (h4 : s.nd.length ≤ 4000) : v = [(s.nd.length : Int) - 1] ∧ Tr.Snd (s.nd.map cvN) ((s.nd.length : Int) - 1) := by
  obtain ⟨g, hnd, hv, _, e, he, _⟩ := expr_w (tk_facts hc).1 h
  cases g with
  | nil => simp [Wd.kds] at he
  | snoc f kd n pl tx ks =>
    have hf : f = .nil := by
      cases f with
      | nil => rfl
      | snoc => have := congrArg List.length he; simp [Wd.kds] at this
    refine ⟨?_, by rw [hnd] at h4 ⊢; exact wd_snd hf h4⟩
    rw [hv, hnd, Wd.fl_len]
    subst hf
    simp only [Wd.rt, Wd.sz, List.nil_append, List.cons.injEq, and_true]
    omega
theorem expr_len {l : List UInt8} {us : List Tk.Tok} {v : List Int} {s : St} (hc : Tk.cutR l 0 = .ok us) (h : exprR (us.map cvT) = .ok v s) : s.nd.length ≤ l.length + 1 := by
  have h1 := (nk_only (us.map cvT) (run_nk (us.map cvT) _) st0 v s h).1.1
  rcases (exprR_ok (ts_ok hc)).cases with ⟨v', s', q, q2, _⟩ | ⟨p', e', q, _, _⟩
  case inr => rw [h] at q; cases q
  rw [h] at q
  injection q with _ q
  subst q
  rw [List.length_map] at q2
  have := ts_len hc
  have h1 : (s.nd.length : Int) + 0 + 0 ≤ 0 + s.nx := h1
  omega
theorem sgn_row : ∀ x ∈ Tk.sgns, 1 ≤ rowOf x ∧ rowOf x ≤ 5 := by decide
theorem kid_range {A : List Tr.Nd} {r : Int} (h : Tr.Snd A r) : ∀ x ∈ A, ∀ k ∈ x.ks, 0 ≤ k ∧ k ≤ 4000 := by
  obtain ⟨b, h1, h2, h3, h4, h5⟩ := h
  intro x hx k hk
  obtain ⟨p, hp, rfl⟩ := List.getElem_of_mem hx
  have e : Tr.kidsAt A p = A[p].ks := by unfold Tr.kidsAt; simp [List.getD, hp]
  rw [← e] at hk
  obtain ⟨m, rfl, hm, _⟩ := h4.kid hp hk
  omega
def fN (x : Tr.Nd) : Int × Int × ByteArray × List Int := (x.kd, x.n, x.tx, x.ks)
def gN (x : Nd) : Int × Int × ByteArray × List Int := (x.kd, x.n, Tk.bs x.tx, x.ks)
theorem like_iff {l m : List Tr.Nd} : LikeN l m ↔ l.map fN = m.map fN := Iff.rfl
theorem fg (nd : List Nd) : (nd.map cvN).map fN = (nd.map erN).map gN := by rw [List.map_map, List.map_map]; rfl
theorem fg_mv {nd : List Nd} {r : Int} (h : Tr.Snd (nd.map cvN) r) (c : Nat) (hc : c ≤ 4000) : ((nd.map cvN).map (Tr.mvN (c : Int))).map fN = ((nd.map erN).map (up c)).map gN := by
  simp only [List.map_map]
  refine List.map_congr_left fun x hx => ?_
  have hk := kid_range h (cvN x) (List.mem_map.2 ⟨x, hx, rfl⟩)
  show (x.kd, x.n, bs x.tx, x.ks.map fun k => wrap64 (k + (c : Int))) = (x.kd, x.n, Tk.bs x.tx, x.ks.map (· + (c : Int)))
  have e : (x.ks.map fun k => wrap64 (k + (c : Int))) = x.ks.map (· + (c : Int)) := List.map_congr_left fun k hkk => by
    have := hk k hkk
    exact Tr.wrap_small (by omega) (by omega)
  rw [e]; rfl
theorem brk_two {l l' : List UInt8} {nd nd' : List Nd} {k k' : Nat} {x : List UInt8} (h : ansOf exprR l = .good nd k) (h' : ansOf exprR l' = .good nd' k') (hk : k ≤ 38) (hk' : k' ≤ 38) (hl : l.length ≤ 600) (hl' : l'.length ≤ 600)
    (hd : Tr.dpt (nd.map cvN) ((nd.length : Int) - 1) ≤ 38) (hd' : Tr.dpt (nd'.map cvN) ((nd'.length : Int) - 1) ≤ 38) (hx : x ∈ Tk.sgns) :
    ∃ m k2, ansOf exprR (40 :: (l ++ 10 :: 41 :: (x ++ 40 :: (l' ++ [10, 41])))) = .good m k2 ∧ LikeN (m.map cvN) (Tr.ovL 27 0 0 (Tk.bs x) [(nd.map cvN, (nd.length : Int) - 1), (nd'.map cvN, (nd'.length : Int) - 1)]) ∧
      (Tr.ovA [(nd.map cvN, (nd.length : Int) - 1), (nd'.map cvN, (nd'.length : Int) - 1)]).length = m.length - 1 ∧ 1 ≤ m.length ∧ m.length ≤ 1300 ∧ (∀ z ∈ m.map cvN, z.ks.length ≤ 4000) := by
  obtain ⟨us, v, s, hc, hx1, rfl, rfl, hl1, hd1, hX⟩ := good_parts h
  obtain ⟨us', v', s', hc', hx1', rfl, rfl, hl1', hd1', hX'⟩ := good_parts h'
  obtain ⟨e1, e5⟩ := xt_parts hc
  obtain ⟨e1', e5'⟩ := xt_parts hc'
  have n1 := expr_len hc hx1
  have n1' := expr_len hc' hx1'
  obtain ⟨r1, r2⟩ := expr_root hc hx1 hl1
  obtain ⟨r1', r2'⟩ := expr_root hc' hx1' hl1'
  obtain ⟨q1, q5⟩ := sgn_row x hx
  obtain ⟨w, s2, hs2, hn2⟩ := two_in (XT us) (XT us') x (rowOf x) e5 e5' hX hX' hk hk' rfl q1 q5
  obtain ⟨ws, hw, hws⟩ := Tk.noP_ok (Tk.cut_two hc hc' x hx)
  have ht : (ws.map cvT).map erT = tO :: (XT us ++ tC :: ⟨3, 0, 0, x⟩ :: tO :: (XT us' ++ [tC, eT])) := by
    rw [er_gT, hws, List.map_cons, List.map_append, List.map_cons, List.map_cons, List.map_cons, List.map_append]; rfl
  have hr := er_exprR (ws.map cvT)
  rw [ht, hs2] at hr
  obtain ⟨sm, hsm, he⟩ := erR_ok hr.symm
  have hn : sm.nd.map erN = s.nd.map erN ++ (s'.nd.map erN).map (up s.nd.length) ++ [⟨27, 0, 0, x, v ++ v'.map (· + (s.nd.length : Int))⟩] := by
    have : (erS sm).nd = s2.nd := by rw [he]
    rw [hn2] at this
    have hlen : (erS s).nd.length = s.nd.length := by show (s.nd.map erN).length = _; rw [List.length_map]
    rw [hlen] at this
    exact this
  obtain ⟨A, hA⟩ : ∃ A, A = s.nd.map cvN := ⟨_, rfl⟩
  obtain ⟨B, hB⟩ : ∃ B, B = s'.nd.map cvN := ⟨_, rfl⟩
  have lA : A.length = s.nd.length := by rw [hA, List.length_map]
  have lB : B.length = s'.nd.length := by rw [hB, List.length_map]
  have hov : Tr.ovA [(A, (s.nd.length : Int) - 1), (B, (s'.nd.length : Int) - 1)] = A.map (Tr.mvN ((0 : Nat) : Int)) ++ B.map (Tr.mvN (s.nd.length : Int)) := by
    show ([] ++ A.map (Tr.mvN ((0 : Nat) : Int))) ++ B.map (Tr.mvN (([] ++ A.map (Tr.mvN ((0 : Nat) : Int))).length : Int)) = _
    rw [List.nil_append, List.length_map, lA]
  have hlo : (Tr.ovA [(A, (s.nd.length : Int) - 1), (B, (s'.nd.length : Int) - 1)]).length = s.nd.length + s'.nd.length := by rw [hov, List.length_append, List.length_map, List.length_map, lA, lB]
  have hrts : Tr.rts [(A, (s.nd.length : Int) - 1), (B, (s'.nd.length : Int) - 1)] = [(s.nd.length : Int) - 1, (s'.nd.length : Int) - 1 + (s.nd.length : Int)] := by
    rw [Tr.rts_eq]
    show [wrap64 (((0 : Nat) : Int) + ((s.nd.length : Int) - 1)), wrap64 ((([] ++ A.map (Tr.mvN ((0 : Nat) : Int))).length : Int) + ((s'.nd.length : Int) - 1))] = _
    rw [List.nil_append, List.length_map, lA, Tr.wrap_small (by omega) (by omega), Tr.wrap_small (by omega) (by omega)]
    simp only [List.cons.injEq, and_true]
    omega
  have hm1 : sm.nd.length = s.nd.length + s'.nd.length + 1 := by
    have := congrArg List.length hn
    simp only [List.length_append, List.length_map, List.length_singleton] at this
    exact this
  have hlike : LikeN (sm.nd.map cvN) (Tr.ovL 27 0 0 (Tk.bs x) [(A, (s.nd.length : Int) - 1), (B, (s'.nd.length : Int) - 1)]) := by
    rw [like_iff, fg, hn]
    unfold Tr.ovL
    rw [hrts, hov, List.map_append, List.map_append, List.map_append, List.map_append]
    have f1 : (A.map (Tr.mvN ((0 : Nat) : Int))).map fN = (s.nd.map erN).map gN := by rw [hA, fg_mv r2 0 (by omega), up_0]
    have f2 : (B.map (Tr.mvN (s.nd.length : Int))).map fN = ((s'.nd.map erN).map (up s.nd.length)).map gN := by rw [hB, fg_mv r2' _ hl1]
    rw [f1, f2, r1, r1']
    rfl
  have hsnd := Tr.over_sound (kd := 27) (n := 0) (pl := 0) (tx := Tk.bs x) (ts := [(A, (s.nd.length : Int) - 1), (B, (s'.nd.length : Int) - 1)]) (by
    intro t ht
    rcases List.mem_cons.1 ht with rfl | ht
    · show Tr.Snd A _; rw [hA]; exact r2
    · rcases List.mem_cons.1 ht with rfl | ht
      · show Tr.Snd B _; rw [hB]; exact r2'
      · cases ht) (by rw [hlo]; omega) (by unfold Tr.ovL; rw [List.length_append, hlo]; show _ + 1 ≤ 4000; omega)
  have hdt : Tr.deepT [(A, (s.nd.length : Int) - 1), (B, (s'.nd.length : Int) - 1)] ≤ 38 := by
    show max (max 0 (Tr.dpt A ((s.nd.length : Int) - 1))) (Tr.dpt B ((s'.nd.length : Int) - 1)) ≤ 38
    rw [hA, hB]; omega
  have hdm : Tr.dpt (sm.nd.map cvN) ((sm.nd.length : Int) - 1) ≤ 39 := by
    rw [hlike.dpt, show ((sm.nd.length : Int) - 1) = ((Tr.ovA [(A, (s.nd.length : Int) - 1), (B, (s'.nd.length : Int) - 1)]).length : Int) by rw [hlo, hm1]; omega, hsnd.2]
    omega
  refine ⟨sm.nd, sm.mo, ?_, by rw [← hA, ← hB]; exact hlike, by rw [← hA, ← hB, hlo, hm1]; omega, by omega, by omega, ?_⟩
  · rw [ansOf_ok hw hsm, if_neg (by omega), if_neg (by omega)]
  · intro z hz
    obtain ⟨y, hy, rfl⟩ := List.mem_map.1 hz
    have := expr_kids hsm y hy
    show y.ks.length ≤ 4000
    omega
end
section
open Go Go.RowKit

/-- what an expression begins with -/
def FT (t : Tok) : Prop := t.k = 1 ∨ t.k = 2 ∨ t.s ∈ [[45], [33], wTrue, wFalse, wLen, [38], [40]]
theorem una_first {ts : List Tok} {rec : Job → St → Rs} {s s' : St} {v : List Int} (h : unaM ts rec s = .ok v s') : FT (tkn ts s) := by
  unfold unaM at h
  simp only at h
  split at h
  · exact .inl ‹_›
  split at h
  · exact .inr (.inl ‹_›)
  split at h
  · rename_i q; rcases q with q | q <;> exact .inr (.inr (by rw [q]; decide))
  split at h
  · rename_i q; rcases q with q | q <;> exact .inr (.inr (by rw [q]; decide))
  split at h
  · rename_i q; exact .inr (.inr (by rw [q]; decide))
  split at h
  · rename_i q; exact .inr (.inr (by rw [q]; decide))
  split at h
  · rename_i q; exact .inr (.inr (by rw [q]; decide))
  · cases h
theorem bin_first {ts : List Tok} : ∀ (f r : Nat) (s s' : St) (v : List Int), run ts f (.bin r) s = .ok v s' → FT (tkn ts s)
  | 0, r, s, s', v, h => by cases h
  | f + 1, r, s, s', v, h => by
    have h : binM (run ts f) r s = .ok v s' := h
    unfold binM at h
    split at h
    · cases f with
      | zero => cases h
      | succ f => exact una_first h
    · obtain ⟨v1, s1, h1, _⟩ := Rs.bind_ok h
      exact bin_first f (r + 1) s s1 v1 h1
theorem prog_first {ts : List Tok} {s' : St} {v : List Int} (h : progR ts = .ok v s') : (tkn ts st0).s = wVar ∨ (tkn ts st0).s = wProc ∨ (tkn ts st0).k = 5 := by
  by_cases q1 : sees ts wVar st0 = true
  · exact .inl (eq_of_beq q1)
  by_cases q2 : sees ts wProc st0 = true
  · exact .inr (.inl (eq_of_beq q2))
  unfold progR programM at h
  have e1 : run ts (steps ts) (.vars 2 []) st0 = .ok [] st0 := by
    show varsM ts (run ts (10 * ts.length + 9)) 2 [] st0 = _
    unfold varsM; rw [if_neg q1]
  have e2 : run ts (steps ts) (.procs []) st0 = .ok [] st0 := by
    show procsM ts (run ts (10 * ts.length + 9)) [] st0 = _
    unfold procsM; rw [if_neg q2]
  rw [e1, bind_okk, e2, bind_okk] at h
  obtain ⟨v1, s1, h1, _⟩ := Rs.bind_ok h
  unfold endM at h1
  split at h1
  · exact .inr (.inr ‹_›)
  · cases h1
theorem not_prog {l : List UInt8} {nd : List Nd} {k : Nat} (h : ansOf exprR l = .good nd k) (nd' : List Nd) (k' : Nat) : ansOf progR l ≠ .good nd' k' := fun h' => by
  obtain ⟨us, v, s, hc, hx, _⟩ := good_parts h
  have hE := bin_first _ _ _ _ _ (expr_parts hx).1
  rcases (progR_ok (ts_ok hc)).cases with ⟨v', s', q, _⟩ | ⟨p', e', q, _, _⟩
  case inr => rw [ansOf_no hc q] at h'; cases h'
  have hP := prog_first q
  have hc2 := hc
  rw [Tk.cutR_0] at hc2
  rcases Tk.cutL_form l.length 0 l (Nat.le_refl _) with ⟨xs, e, hg, _⟩ | ⟨p, e, _, _⟩
  · rw [hc2] at e
    injection e with e
    cases xs with
    | nil =>
      have ht : tkn (us.map cvT) st0 = cvT (Tk.endT (0 + l.length)) := by rw [e]; rfl
      rw [ht] at hE
      rcases hE with q | q | q
      · cases q
      · cases q
      · revert q
        show ¬ (([] : List UInt8) ∈ [[45], [33], wTrue, wFalse, wLen, [38], [40]])
        decide
    | cons x xs =>
      have ht : tkn (us.map cvT) st0 = cvT x := by rw [e]; rfl
      have hx := (hg x (List.mem_cons_self)).1
      have h4 := tokK_le x.s
      rw [ht] at hE hP
      have hE : x.k = 1 ∨ x.k = 2 ∨ x.s ∈ [[45], [33], wTrue, wFalse, wLen, [38], [40]] := hE
      have hP : x.s = wVar ∨ x.s = wProc ∨ x.k = 5 := hP
      rcases hP with q | q | q
      · rw [q] at hx hE
        rcases hE with z | z | z
        · rw [hx] at z; revert z; decide
        · rw [hx] at z; revert z; decide
        · revert z; decide
      · rw [q] at hx hE
        rcases hE with z | z | z
        · rw [hx] at z; revert z; decide
        · rw [hx] at z; revert z; decide
        · revert z; decide
      · omega
  · rw [hc2] at e; cases e
theorem nest_of {l : List UInt8} {nd : List Nd} {k : Nat} (h : ansOf exprR l = .good nd k) : nestOf (ansOf progR l) (ansOf exprR l) = (k : Int) := by
  cases hp : ansOf progR l with
  | good nd' k' => exact absurd hp (not_prog h nd' k')
  | bad p e => rw [h]; rfl
end
section
open Go Go.RowKit
open Tr (Bx heap1 bt gen_world ret_int ret_bool cell_same Nds)

def WNoX (p er : Int) (w : World) (e : Ending) (w' : World) : Prop := e = .returned (.tuple #[.agg #[.slice none 0 0, .int .i64 0], .int .i64 p, .int .i64 er]) ∧ Below w.heap.size w w'
theorem WNoX.of {p e : Nat} {a : Ans} {w w' : World} {v : Ending} (ha : a = .bad p e) (h : TreePost a w v w') : WNoX p e w v w' := by
  subst ha
  obtain ⟨A, n, c, r, m, p', er', rfl, hb, rfl, rfl, rfl, rfl, rfl, rfl, rfl⟩ := h
  exact ⟨rfl, hb⟩
/-- a tree whose root stands last -/
def WGd (l : List Tr.Nd) (n : Nat) (w : World) (e : Ending) (w' : World) : Prop := ∃ A c, e = .returned (.tuple #[.agg #[.slice A n c, .int .i64 ((n : Int) - 1)], .int .i64 0, .int .i64 0]) ∧ Below w.heap.size w w' ∧ Nds w' A l
theorem WGd.of {nd : List Nd} {k n : Nat} {a : Ans} {w w' : World} {v : Ending} (ha : a = .good nd k) (hn : nd.length = n) (h : TreePost a w v w') : WGd (nd.map cvN) n w v w' := by
  subst ha hn
  obtain ⟨A, n, c, r, m, p', er', rfl, hb, rfl, rfl, rfl, rfl, rfl, hN⟩ := h
  exact ⟨A, c, rfl, hb, hN.nds⟩
/-- a refusal, or a tree -/
def WAny (w : World) (e : Ending) (w' : World) : Prop := ∃ A n c r p er, e = .returned (.tuple #[.agg #[.slice A n c, .int .i64 r], .int .i64 p, .int .i64 er]) ∧ Below w.heap.size w w'
theorem WAny.of {a : Ans} {w w' : World} {v : Ending} (h : TreePost a w v w') : WAny w v w' := by
  obtain ⟨A, n, c, r, m, p', er', rfl, hb, _⟩ := h
  exact ⟨A, n, c, r, p', er', rfl, hb⟩
set_option maxRecDepth 100000 in
set_option maxHeartbeats 1500000 in
theorem br_long (s t : ByteArray) (n : Int) (w : World) (hE : Tk.Errs w) (hl : ¬ (s.size ≤ 600 ∧ t.size ≤ 600)) : Calls Tryz.prog 6 #[.string s, .string t, .int .i64 n] w (VPost (.bool true) w) := by
  have HS := Lib.hid (shown_any w hE)
  by_cases hs : s.size ≤ 600
  · have h1 : ¬ (600 : Int) < (s.size : Int) := by omega
    have h2 : (600 : Int) < (t.size : Int) := by omega
    clear hE hl hs
    go_enter Tryz.func6, Tryz.ntmps6
    go_wp2_with (go_at_call 8; refine HS.out.mono ?_; rintro e w1 ⟨rfl, hb1⟩)
    go_ret
    exact ⟨rfl, hb1⟩
  · have h1 : (600 : Int) < (s.size : Int) := by omega
    clear hE hl hs
    go_enter Tryz.func6, Tryz.ntmps6
    go_wp2_with (go_at_call 8; refine HS.out.mono ?_; rintro e w1 ⟨rfl, hb1⟩)
    go_ret
    exact ⟨rfl, hb1⟩
set_option maxRecDepth 100000 in
set_option maxHeartbeats 1500000 in
theorem br_bad1 (s t : ByteArray) (n : Int) (w : World) (hE : Tk.Errs w) (hs : s.size ≤ 600) (ht : t.size ≤ 600) (p er : Nat) (ha : ansOf exprR s.data.toList = .bad p er) : Calls Tryz.prog 6 #[.string s, .string t, .int .i64 n] w (VPost (.bool true) w) := by
  have HS := Lib.hid (shown_any w hE)
  have he := ans_expr ha
  have HP := Lib.hid (fun w' (q : Below w.heap.size w w') => (expr_any s w' (hE.below q) (by omega)).mono fun _ _ r => WNoX.of ha r)
  have HQ := Lib.hid (fun w' (q : Below w.heap.size w w') => (expr_any t w' (hE.below q) (by omega)).mono fun _ _ r => WAny.of r)
  have h1 : ¬ (600 : Int) < (s.size : Int) := by omega
  have h2 : ¬ (600 : Int) < (t.size : Int) := by omega
  have d0 : ((er : Int) == 0) = false := by rw [beq_eq_false_iff_ne]; omega
  have d1 : ((er : Int) != 0) = true := by rw [bne_iff_ne]; omega
  clear hE ha hs ht he
  go_enter Tryz.func6, Tryz.ntmps6
  go_wp2_with (first | (go_at_call 8; refine HS.out.mono ?_; rintro e w1 ⟨rfl, hb1⟩) | (go_at_call 16; (with_reducible refine (HP.out _ hb1).mono ?_)))
  rintro e w2 ⟨rfl, hb2⟩
  have HB := Lib.hid (bt (bt hb1 hb2) (heap1 w2 (.cells #[.slice none 0 0, .int .i64 0] 25)))
  clear hb1 hb2
  go_wp2_with (go_at_call 16; refine (HQ.out _ HB.out).mono ?_)
  rintro e w3 ⟨B, m, c, r, p2, er2, rfl, hb3⟩
  go_wp2
  go_ret
  exact ⟨rfl, bt (bt HB.out hb3) (heap1 _ _)⟩
set_option maxRecDepth 100000 in
set_option maxHeartbeats 1500000 in
theorem br_bad2 (s t : ByteArray) (n : Int) (w : World) (hE : Tk.Errs w) (hs : s.size ≤ 600) (ht : t.size ≤ 600) (nd : List Nd) (k p er : Nat) (ha : ansOf exprR s.data.toList = .good nd k) (hb : ansOf exprR t.data.toList = .bad p er) : Calls Tryz.prog 6 #[.string s, .string t, .int .i64 n] w (VPost (.bool true) w) := by
  have HS := Lib.hid (shown_any w hE)
  obtain ⟨n1, hn1⟩ : ∃ n1, nd.length = n1 := ⟨_, rfl⟩
  have HP := Lib.hid (fun w' (q : Below w.heap.size w w') => (expr_any s w' (hE.below q) (by omega)).mono fun _ _ r => WGd.of ha hn1 r)
  have HQ := Lib.hid (fun w' (q : Below w.heap.size w w') => (expr_any t w' (hE.below q) (by omega)).mono fun _ _ r => WNoX.of hb r)
  have he := ans_expr hb
  have h1 : ¬ (600 : Int) < (s.size : Int) := by omega
  have h2 : ¬ (600 : Int) < (t.size : Int) := by omega
  have d0 : ((er : Int) == 0) = false := by rw [beq_eq_false_iff_ne]; omega
  have d1 : ((er : Int) != 0) = true := by rw [bne_iff_ne]; omega
  clear hE ha hb hs ht he hn1
  go_enter Tryz.func6, Tryz.ntmps6
  go_wp2_with (first | (go_at_call 8; refine HS.out.mono ?_; rintro e w1 ⟨rfl, hb1⟩) | (go_at_call 16; refine (HP.out _ hb1).mono ?_))
  rintro e w2 ⟨A, c, rfl, hb2, hNd⟩
  have HB := Lib.hid (bt (bt hb1 hb2) (heap1 w2 (.cells #[.slice A n1 c, .int .i64 ((n1 : Int) - 1)] 25)))
  clear hb1 hb2 hNd
  go_wp2_with (go_at_call 16; refine (HQ.out _ HB.out).mono ?_)
  rintro e w3 ⟨rfl, hb3⟩
  go_wp2
  go_ret
  exact ⟨rfl, bt (bt HB.out hb3) (heap1 _ _)⟩
set_option maxRecDepth 100000 in
set_option maxHeartbeats 2500000 in
theorem br_deep (s t : ByteArray) (n : Int) (w : World) (hE : Tk.Errs w) (hs : s.size ≤ 600) (ht : t.size ≤ 600) (nd nd' : List Nd) (k1 k2 d1 d2 : Nat) (ha : ansOf exprR s.data.toList = .good nd k1) (hb : ansOf exprR t.data.toList = .good nd' k2) (hd1 : Tr.dpt (nd.map cvN) ((nd.length : Int) - 1) = d1) (hd2 : Tr.dpt (nd'.map cvN) ((nd'.length : Int) - 1) = d2) (hm : ¬ (k1 ≤ 38 ∧ k2 ≤ 38 ∧ d1 ≤ 38 ∧ d2 ≤ 38)) : Calls Tryz.prog 6 #[.string s, .string t, .int .i64 n] w (VPost (.bool true) w) := by
  have HS := Lib.hid (shown_any w hE)
  obtain ⟨n1, hn1⟩ : ∃ n1, nd.length = n1 := ⟨_, rfl⟩
  obtain ⟨n2, hn2⟩ : ∃ n2, nd'.length = n2 := ⟨_, rfl⟩
  obtain ⟨_, _, s1, _, hx1, hnd1, _, hl1, _⟩ := good_parts ha
  obtain ⟨_, _, s2, _, hx2, hnd2, _, hl2, _⟩ := good_parts hb
  have hk1 : ∀ x ∈ nd.map cvN, x.ks.length ≤ 4000 := fun x hx => by
    obtain ⟨y, hy, rfl⟩ := List.mem_map.1 hx
    have := expr_kids hx1 y (by rw [hnd1]; exact hy)
    rw [hnd1] at this
    show y.ks.length ≤ 4000; omega
  have hk2 : ∀ x ∈ nd'.map cvN, x.ks.length ≤ 4000 := fun x hx => by
    obtain ⟨y, hy, rfl⟩ := List.mem_map.1 hx
    have := expr_kids hx2 y (by rw [hnd2]; exact hy)
    rw [hnd2] at this
    show y.ks.length ≤ 4000; omega
  have HP := Lib.hid (fun w' (q : Below w.heap.size w w') => (expr_any s w' (hE.below q) (by omega)).mono fun _ _ r => WGd.of ha hn1 r)
  have HQ := Lib.hid (fun w' (q : Below w.heap.size w w') => (expr_any t w' (hE.below q) (by omega)).mono fun _ _ r => WGd.of hb hn2 r)
  have HN1 := Lib.hid (fun w' (q : Below w.heap.size w w') => show Calls Tryz.prog 17 #[.string s] w' (VPost (.int .i64 (k1 : Int)) w') from nest_of ha ▸ nest_any s w' (hE.below q) (by omega))
  have HN2 := Lib.hid (fun w' (q : Below w.heap.size w w') => show Calls Tryz.prog 17 #[.string t] w' (VPost (.int .i64 (k2 : Int)) w') from nest_of hb ▸ nest_any t w' (hE.below q) (by omega))
  have HD1 := Lib.hid (fun w' A c (q : Nds w' A (nd.map cvN)) => show Calls Tryz.prog 18 #[.agg #[.slice A n1 c, .int .i64 ((n1 : Int) - 1)]] w' (Tr.IPost (d1 : Int) w') from (by
    have := Tr.depth_any A c n1 (nd.map cvN) ((n1 : Int) - 1) w' q (by rw [List.length_map, hn1]) hk1
    rw [← hn1, hd1, hn1] at this
    exact this))
  have HD2 := Lib.hid (fun w' A c (q : Nds w' A (nd'.map cvN)) => show Calls Tryz.prog 18 #[.agg #[.slice A n2 c, .int .i64 ((n2 : Int) - 1)]] w' (Tr.IPost (d2 : Int) w') from (by
    have := Tr.depth_any A c n2 (nd'.map cvN) ((n2 : Int) - 1) w' q (by rw [List.length_map, hn2]) hk2
    rw [← hn2, hd2, hn2] at this
    exact this))
  have h1 : ¬ (600 : Int) < (s.size : Int) := by omega
  have h2 : ¬ (600 : Int) < (t.size : Int) := by omega
  by_cases g1 : k1 ≤ 38
  case neg =>
    have f0 : (38 : Int) < (k1 : Int) := by omega
    clear hE ha hb hs ht hn1 hn2 hx1 hnd1 hl1 hx2 hnd2 hl2 hk1 hk2 hd1 hd2 hm g1
    go_enter Tryz.func6, Tryz.ntmps6
    go_wp2_with (first | (go_at_call 8; refine HS.out.mono ?_; rintro e w1 ⟨rfl, hb1⟩) | (go_at_call 16; refine (HP.out _ hb1).mono ?_))
    rintro e w2 ⟨A, c, rfl, hb2, hNd⟩
    have hbA := heap1 w2 (.cells #[.slice A n1 c, .int .i64 ((n1 : Int) - 1)] 25)
    have HW2 := Lib.hid (bt (bt hb1 hb2) hbA)
    have HB2 := Lib.hid (Bx.new w2 25 [.slice A n1 c, .int .i64 ((n1 : Int) - 1)])
    have HA2 := Lib.hid (hNd.below hbA)
    clear hb1 hb2 hNd hbA
    go_wp2_with (go_at_call 16; refine (HQ.out _ HW2.out).mono ?_)
    rintro e w3 ⟨B, c', rfl, hb3, hNd⟩
    have hbA := heap1 w3 (.cells #[.slice B n2 c', .int .i64 ((n2 : Int) - 1)] 25)
    have HX3 := Lib.hid (Bx.new w3 25 [.slice B n2 c', .int .i64 ((n2 : Int) - 1)])
    have HM3 := Lib.hid (hNd.below hbA)
    have HB3 := Lib.hid ((HB2.out.below hb3 HB2.out.lt).below hbA (Nat.lt_of_lt_of_le HB2.out.lt hb3.size))
    have HA3 := Lib.hid ((HA2.out.below hb3).below hbA)
    have HW3 := Lib.hid (bt (bt HW2.out hb3) hbA)
    clear HB2 HA2 HW2 hb3 hNd hbA
    go_wp2_with (go_at_call 17; refine (HN1.out _ HW3.out).mono ?_)
    rintro e w4 ⟨rfl, hb4⟩
    go_wp2
    go_ret
    exact ⟨rfl, bt HW3.out hb4⟩
  by_cases g2 : k2 ≤ 38
  case neg =>
    have f0 : ¬ (38 : Int) < (k1 : Int) := by omega
    have f1 : (38 : Int) < (k2 : Int) := by omega
    clear hE ha hb hs ht hn1 hn2 hx1 hnd1 hl1 hx2 hnd2 hl2 hk1 hk2 hd1 hd2 hm g1 g2
    go_enter Tryz.func6, Tryz.ntmps6
    go_wp2_with (first | (go_at_call 8; refine HS.out.mono ?_; rintro e w1 ⟨rfl, hb1⟩) | (go_at_call 16; refine (HP.out _ hb1).mono ?_))
    rintro e w2 ⟨A, c, rfl, hb2, hNd⟩
    have hbA := heap1 w2 (.cells #[.slice A n1 c, .int .i64 ((n1 : Int) - 1)] 25)
    have HW2 := Lib.hid (bt (bt hb1 hb2) hbA)
    have HB2 := Lib.hid (Bx.new w2 25 [.slice A n1 c, .int .i64 ((n1 : Int) - 1)])
    have HA2 := Lib.hid (hNd.below hbA)
    clear hb1 hb2 hNd hbA
    go_wp2_with (go_at_call 16; refine (HQ.out _ HW2.out).mono ?_)
    rintro e w3 ⟨B, c', rfl, hb3, hNd⟩
    have hbA := heap1 w3 (.cells #[.slice B n2 c', .int .i64 ((n2 : Int) - 1)] 25)
    have HX3 := Lib.hid (Bx.new w3 25 [.slice B n2 c', .int .i64 ((n2 : Int) - 1)])
    have HM3 := Lib.hid (hNd.below hbA)
    have HB3 := Lib.hid ((HB2.out.below hb3 HB2.out.lt).below hbA (Nat.lt_of_lt_of_le HB2.out.lt hb3.size))
    have HA3 := Lib.hid ((HA2.out.below hb3).below hbA)
    have HW3 := Lib.hid (bt (bt HW2.out hb3) hbA)
    clear HB2 HA2 HW2 hb3 hNd hbA
    go_wp2_with (go_at_call 17; refine (HN1.out _ HW3.out).mono ?_)
    rintro e w4 ⟨rfl, hb4⟩
    have HB4 := Lib.hid (HB3.out.below hb4 HB3.out.lt)
    have HX4 := Lib.hid (HX3.out.below hb4 HX3.out.lt)
    have HA4 := Lib.hid (HA3.out.below hb4)
    have HM4 := Lib.hid (HM3.out.below hb4)
    have HW4 := Lib.hid (bt HW3.out hb4)
    clear HB3 HX3 HA3 HM3 HW3 hb4
    go_wp2_with (go_at_call 17; refine (HN2.out _ HW4.out).mono ?_)
    rintro e w5 ⟨rfl, hb5⟩
    go_wp2
    go_ret
    exact ⟨rfl, bt HW4.out hb5⟩
  by_cases g3 : d1 ≤ 38
  case neg =>
    have f0 : ¬ (38 : Int) < (k1 : Int) := by omega
    have f1 : ¬ (38 : Int) < (k2 : Int) := by omega
    have f2 : (38 : Int) < (d1 : Int) := by omega
    clear hE ha hb hs ht hn1 hn2 hx1 hnd1 hl1 hx2 hnd2 hl2 hk1 hk2 hd1 hd2 hm g1 g2 g3
    go_enter Tryz.func6, Tryz.ntmps6
    go_wp2_with (first | (go_at_call 8; refine HS.out.mono ?_; rintro e w1 ⟨rfl, hb1⟩) | (go_at_call 16; refine (HP.out _ hb1).mono ?_))
    rintro e w2 ⟨A, c, rfl, hb2, hNd⟩
    have hbA := heap1 w2 (.cells #[.slice A n1 c, .int .i64 ((n1 : Int) - 1)] 25)
    have HW2 := Lib.hid (bt (bt hb1 hb2) hbA)
    have HB2 := Lib.hid (Bx.new w2 25 [.slice A n1 c, .int .i64 ((n1 : Int) - 1)])
    have HA2 := Lib.hid (hNd.below hbA)
    clear hb1 hb2 hNd hbA
    go_wp2_with (go_at_call 16; refine (HQ.out _ HW2.out).mono ?_)
    rintro e w3 ⟨B, c', rfl, hb3, hNd⟩
    have hbA := heap1 w3 (.cells #[.slice B n2 c', .int .i64 ((n2 : Int) - 1)] 25)
    have HX3 := Lib.hid (Bx.new w3 25 [.slice B n2 c', .int .i64 ((n2 : Int) - 1)])
    have HM3 := Lib.hid (hNd.below hbA)
    have HB3 := Lib.hid ((HB2.out.below hb3 HB2.out.lt).below hbA (Nat.lt_of_lt_of_le HB2.out.lt hb3.size))
    have HA3 := Lib.hid ((HA2.out.below hb3).below hbA)
    have HW3 := Lib.hid (bt (bt HW2.out hb3) hbA)
    clear HB2 HA2 HW2 hb3 hNd hbA
    go_wp2_with (go_at_call 17; refine (HN1.out _ HW3.out).mono ?_)
    rintro e w4 ⟨rfl, hb4⟩
    have HB4 := Lib.hid (HB3.out.below hb4 HB3.out.lt)
    have HX4 := Lib.hid (HX3.out.below hb4 HX3.out.lt)
    have HA4 := Lib.hid (HA3.out.below hb4)
    have HM4 := Lib.hid (HM3.out.below hb4)
    have HW4 := Lib.hid (bt HW3.out hb4)
    clear HB3 HX3 HA3 HM3 HW3 hb4
    go_wp2_with (go_at_call 17; refine (HN2.out _ HW4.out).mono ?_)
    rintro e w5 ⟨rfl, hb5⟩
    have HB5 := Lib.hid (HB4.out.below hb5 HB4.out.lt)
    have HX5 := Lib.hid (HX4.out.below hb5 HX4.out.lt)
    have HA5 := Lib.hid (HA4.out.below hb5)
    have HM5 := Lib.hid (HM4.out.below hb5)
    have HW5 := Lib.hid (bt HW4.out hb5)
    clear HB4 HX4 HA4 HM4 HW4 hb5
    have a0 := (HB5.out.cell 0).trans rfl
    have a1 := (HB5.out.cell 1).trans rfl
    go_wp2_with (go_at_call 18; refine (HD1.out _ _ _ HA5.out).mono ?_)
    rintro e w6 ⟨rfl, hb6⟩
    clear a0 a1
    go_wp2
    go_ret
    exact ⟨rfl, bt HW5.out hb6⟩
  have g4 : ¬ d2 ≤ 38 := fun q => hm ⟨g1, g2, g3, q⟩
  have f0 : ¬ (38 : Int) < (k1 : Int) := by omega
  have f1 : ¬ (38 : Int) < (k2 : Int) := by omega
  have f2 : ¬ (38 : Int) < (d1 : Int) := by omega
  have f3 : (38 : Int) < (d2 : Int) := by omega
  clear hE ha hb hs ht hn1 hn2 hx1 hnd1 hl1 hx2 hnd2 hl2 hk1 hk2 hd1 hd2 hm g1 g2 g3 g4
  go_enter Tryz.func6, Tryz.ntmps6
  go_wp2_with (first | (go_at_call 8; refine HS.out.mono ?_; rintro e w1 ⟨rfl, hb1⟩) | (go_at_call 16; refine (HP.out _ hb1).mono ?_))
  rintro e w2 ⟨A, c, rfl, hb2, hNd⟩
  have hbA := heap1 w2 (.cells #[.slice A n1 c, .int .i64 ((n1 : Int) - 1)] 25)
  have HW2 := Lib.hid (bt (bt hb1 hb2) hbA)
  have HB2 := Lib.hid (Bx.new w2 25 [.slice A n1 c, .int .i64 ((n1 : Int) - 1)])
  have HA2 := Lib.hid (hNd.below hbA)
  clear hb1 hb2 hNd hbA
  go_wp2_with (go_at_call 16; refine (HQ.out _ HW2.out).mono ?_)
  rintro e w3 ⟨B, c', rfl, hb3, hNd⟩
  have hbA := heap1 w3 (.cells #[.slice B n2 c', .int .i64 ((n2 : Int) - 1)] 25)
  have HX3 := Lib.hid (Bx.new w3 25 [.slice B n2 c', .int .i64 ((n2 : Int) - 1)])
  have HM3 := Lib.hid (hNd.below hbA)
  have HB3 := Lib.hid ((HB2.out.below hb3 HB2.out.lt).below hbA (Nat.lt_of_lt_of_le HB2.out.lt hb3.size))
  have HA3 := Lib.hid ((HA2.out.below hb3).below hbA)
  have HW3 := Lib.hid (bt (bt HW2.out hb3) hbA)
  clear HB2 HA2 HW2 hb3 hNd hbA
  go_wp2_with (go_at_call 17; refine (HN1.out _ HW3.out).mono ?_)
  rintro e w4 ⟨rfl, hb4⟩
  have HB4 := Lib.hid (HB3.out.below hb4 HB3.out.lt)
  have HX4 := Lib.hid (HX3.out.below hb4 HX3.out.lt)
  have HA4 := Lib.hid (HA3.out.below hb4)
  have HM4 := Lib.hid (HM3.out.below hb4)
  have HW4 := Lib.hid (bt HW3.out hb4)
  clear HB3 HX3 HA3 HM3 HW3 hb4
  go_wp2_with (go_at_call 17; refine (HN2.out _ HW4.out).mono ?_)
  rintro e w5 ⟨rfl, hb5⟩
  have HB5 := Lib.hid (HB4.out.below hb5 HB4.out.lt)
  have HX5 := Lib.hid (HX4.out.below hb5 HX4.out.lt)
  have HA5 := Lib.hid (HA4.out.below hb5)
  have HM5 := Lib.hid (HM4.out.below hb5)
  have HW5 := Lib.hid (bt HW4.out hb5)
  clear HB4 HX4 HA4 HM4 HW4 hb5
  have a0 := (HB5.out.cell 0).trans rfl
  have a1 := (HB5.out.cell 1).trans rfl
  go_wp2_with (go_at_call 18; refine (HD1.out _ _ _ HA5.out).mono ?_)
  rintro e w6 ⟨rfl, hb6⟩
  clear a0 a1
  have HB6 := Lib.hid (HB5.out.below hb6 HB5.out.lt)
  have HX6 := Lib.hid (HX5.out.below hb6 HX5.out.lt)
  have HA6 := Lib.hid (HA5.out.below hb6)
  have HM6 := Lib.hid (HM5.out.below hb6)
  have HW6 := Lib.hid (bt HW5.out hb6)
  clear HB5 HX5 HA5 HM5 HW5 hb6
  have a0 := (HX6.out.cell 0).trans rfl
  have a1 := (HX6.out.cell 1).trans rfl
  go_wp2_with (go_at_call 18; refine (HD2.out _ _ _ HM6.out).mono ?_)
  rintro e w7 ⟨rfl, hb7⟩
  clear a0 a1
  go_wp2
  go_ret
  exact ⟨rfl, bt HW6.out hb7⟩
end
section
open Go Go.RowKit
open Tr (Bx heap1 bt gen_world ret_int ret_bool cell_same Nds)

def SS (a b c d : Nat) (u v x y : List Value) (W : World) : Prop := Bx W a 25 u ∧ Bx W b 25 v ∧ Bx W c 25 x ∧ Bx W d 25 y
theorem SS.below {a b c d : Nat} {u v x y : List Value} {W W' : World} (h : SS a b c d u v x y W) (hb : Below W.heap.size W W') : SS a b c d u v x y W' := ⟨h.1.below hb h.1.lt, h.2.1.below hb h.2.1.lt, h.2.2.1.below hb h.2.2.1.lt, h.2.2.2.below hb h.2.2.2.lt⟩
theorem own15 : Own 15 := ⟨_, Tryz.func15, by kernel_rfl, by kernel_rfl⟩
theorem own19 : Own 19 := ⟨_, Tryz.func19, by kernel_rfl, by kernel_rfl⟩
section
variable {ops : Array Oper} {Q : Exit → Act → World → Prop} {S : World → Prop} {fuel : Nat} {listed : Array Bool} {a : Act} {w : World} {o : Oper}
theorem y_pickX {c x y : Operand} {v : Value} (ho : o.op = .pick c x y) (hc : a.eval c = .bool true) (hx : a.eval x = v) : ∀ w, S w → (execOp a.eval o).run Tryz.prog w = .ok (.value v) w := fun w _ => by unfold execOp; simp [ho, hc, hx, asBool]
theorem run_build39b (s : ByteArray) (w : World) : (Instr.build 39 #[(0, .int .i64 27), (3, .string s)]).run Tryz.prog w = .ok (.agg #[.int .i64 27, .int .i64 0, .int .i64 0, .string s, .slice none 0 0]) w := by kernel_rfl
theorem y_build39b {x : Operand} {s : ByteArray} (ho : o.op = .build 39 #[(0, .const (.int .i64 27)), (3, x)]) (hx : a.eval x = .string s) : ∀ w, S w → (execOp a.eval o).run Tryz.prog w = .ok (.value (.agg #[.int .i64 27, .int .i64 0, .int .i64 0, .string s, .slice none 0 0])) w := fun w _ => by
  have hc : a.eval (.const (.int .i64 27)) = .int .i64 27 := rfl
  unfold execOp; simp only [ho, List.map_toArray, List.map_cons, List.map_nil, hx, hc, Sem.run_bind, run_build39b, Sem.run_pure, Result.andThen_ok]
/-- a new block of two trees -/
theorem slice45 {K : Act → World → Prop} {x y : Operand} {A B : Option Addr} {n c m d : Nat} {r q : Int} (ho : o.op = .buildSlice 45 2 #[(0, x), (1, y)]) (hx : a.eval x = .agg #[.slice A n c, .int .i64 r]) (hy : a.eval y = .agg #[.slice B m d, .int .i64 q])
    (h : K (a.put o.dst (.slice (some ⟨w.heap.size, 0, none⟩) 2 2)) (w.alloc (.cells #[.slice A n c, .int .i64 r, .slice B m d, .int .i64 q] 25))) : o.wp Tryz.prog a w K Q := by
  unfold Oper.wp execOp
  simp only [ho, List.map_toArray, List.map_cons, List.map_nil, hx, hy]
  simp [go_sem]
  exact h
end
theorem trs2 {w : World} {A B : Option Addr} {n c m d : Nat} {r q : Int} {l l' : List Tr.Nd} (hA : Nds w A l) (hB : Nds w B l') (hn : n = l.length) (hm : m = l'.length) : Tr.Trs (w.alloc (.cells #[.slice A n c, .int .i64 r, .slice B m d, .int .i64 q] 25)) (some ⟨w.heap.size, 0, none⟩) [(l, r), (l', q)] := fun _ => by
  have hX := Bx.new w 25 [.slice A n c, .int .i64 r, .slice B m d, .int .i64 q]
  have hb := heap1 w (.cells #[.slice A n c, .int .i64 r, .slice B m d, .int .i64 q] 25)
  refine ⟨w.heap.size, 0, rfl, hX.lt, fun j hj => ?_⟩
  match j, hj with
  | 0, _ => exact ⟨A, c, (hX.cell 0).trans (by rw [hn]; rfl), (hX.cell 1).trans rfl, hA.below hb⟩
  | 1, _ => exact ⟨B, d, (hX.cell 2).trans (by rw [hm]; rfl), (hX.cell 3).trans rfl, hB.below hb⟩
theorem row_cell (w : World) (j : Nat) (x : List UInt8) (hx : Tk.sgns[j]? = some x) : (w.alloc (.cells #[.string ⟨#[43]⟩, .string ⟨#[45]⟩, .string ⟨#[42]⟩, .string ⟨#[47]⟩, .string ⟨#[37]⟩, .string ⟨#[61, 61]⟩, .string ⟨#[33, 61]⟩, .string ⟨#[60]⟩, .string ⟨#[60, 61]⟩, .string ⟨#[62]⟩, .string ⟨#[62, 61]⟩, .string ⟨#[38, 38]⟩, .string ⟨#[124, 124]⟩] 9)).cell? ⟨w.heap.size, j, none⟩ = some (.string (Tk.bs x)) := by
  have h := (Bx.new w 9 [.string ⟨#[43]⟩, .string ⟨#[45]⟩, .string ⟨#[42]⟩, .string ⟨#[47]⟩, .string ⟨#[37]⟩, .string ⟨#[61, 61]⟩, .string ⟨#[33, 61]⟩, .string ⟨#[60]⟩, .string ⟨#[60, 61]⟩, .string ⟨#[62]⟩, .string ⟨#[62, 61]⟩, .string ⟨#[38, 38]⟩, .string ⟨#[124, 124]⟩]).cell j
  have e : ([.string ⟨#[43]⟩, .string ⟨#[45]⟩, .string ⟨#[42]⟩, .string ⟨#[47]⟩, .string ⟨#[37]⟩, .string ⟨#[61, 61]⟩, .string ⟨#[33, 61]⟩, .string ⟨#[60]⟩, .string ⟨#[60, 61]⟩, .string ⟨#[62]⟩, .string ⟨#[62, 61]⟩, .string ⟨#[38, 38]⟩, .string ⟨#[124, 124]⟩] : List Value) = Tk.sgns.map fun x => Value.string (Tk.bs x) := rfl
  rw [e, List.getElem?_map, hx] at h
  exact h
def WOv (l : List Tr.Nd) (n : Nat) (w : World) (e : Ending) (w' : World) : Prop := ∃ A c, e = .returned (.agg #[.slice A n c, .int .i64 ((n : Int) - 1)]) ∧ Below w.heap.size w w' ∧ Nds w' A l
set_option maxRecDepth 100000 in
set_option maxHeartbeats 4000000 in
theorem br_neg (s t : ByteArray) (n : Int) (w : World) (hE : Tk.Errs w) (hs : s.size ≤ 600) (ht : t.size ≤ 600) (nd nd' : List Nd) (k1 k2 d1 d2 : Nat) (ha : ansOf exprR s.data.toList = .good nd k1) (hb : ansOf exprR t.data.toList = .good nd' k2) (hd1 : Tr.dpt (nd.map cvN) ((nd.length : Int) - 1) = d1) (hd2 : Tr.dpt (nd'.map cvN) ((nd'.length : Int) - 1) = d2) (g1 : k1 ≤ 38) (g2 : k2 ≤ 38) (g3 : d1 ≤ 38) (g4 : d2 ≤ 38) (hn0 : -9223372036854775808 ≤ n) (hneg : n < 0) : Calls Tryz.prog 6 #[.string s, .string t, .int .i64 n] w (VPost (.bool true) w) := by
  have HS := Lib.hid (shown_any w hE)
  obtain ⟨n1, hn1⟩ : ∃ n1, nd.length = n1 := ⟨_, rfl⟩
  obtain ⟨n2, hn2⟩ : ∃ n2, nd'.length = n2 := ⟨_, rfl⟩
  obtain ⟨_, _, s1, _, hx1, hnd1, _, hl1, _⟩ := good_parts ha
  obtain ⟨_, _, s2, _, hx2, hnd2, _, hl2, _⟩ := good_parts hb
  have hk1 : ∀ x ∈ nd.map cvN, x.ks.length ≤ 4000 := fun x hx => by
    obtain ⟨y, hy, rfl⟩ := List.mem_map.1 hx
    have := expr_kids hx1 y (by rw [hnd1]; exact hy)
    rw [hnd1] at this
    show y.ks.length ≤ 4000; omega
  have hk2 : ∀ x ∈ nd'.map cvN, x.ks.length ≤ 4000 := fun x hx => by
    obtain ⟨y, hy, rfl⟩ := List.mem_map.1 hx
    have := expr_kids hx2 y (by rw [hnd2]; exact hy)
    rw [hnd2] at this
    show y.ks.length ≤ 4000; omega
  have HP := Lib.hid (fun w' (q : Below w.heap.size w w') => (expr_any s w' (hE.below q) (by omega)).mono fun _ _ r => WGd.of ha hn1 r)
  have HQ := Lib.hid (fun w' (q : Below w.heap.size w w') => (expr_any t w' (hE.below q) (by omega)).mono fun _ _ r => WGd.of hb hn2 r)
  have HN1 := Lib.hid (fun w' (q : Below w.heap.size w w') => show Calls Tryz.prog 17 #[.string s] w' (VPost (.int .i64 (k1 : Int)) w') from nest_of ha ▸ nest_any s w' (hE.below q) (by omega))
  have HN2 := Lib.hid (fun w' (q : Below w.heap.size w w') => show Calls Tryz.prog 17 #[.string t] w' (VPost (.int .i64 (k2 : Int)) w') from nest_of hb ▸ nest_any t w' (hE.below q) (by omega))
  have HD1 := Lib.hid (fun w' A c (q : Nds w' A (nd.map cvN)) => show Calls Tryz.prog 18 #[.agg #[.slice A n1 c, .int .i64 ((n1 : Int) - 1)]] w' (Tr.IPost (d1 : Int) w') from (by
    have := Tr.depth_any A c n1 (nd.map cvN) ((n1 : Int) - 1) w' q (by rw [List.length_map, hn1]) hk1
    rw [← hn1, hd1, hn1] at this
    exact this))
  have HD2 := Lib.hid (fun w' A c (q : Nds w' A (nd'.map cvN)) => show Calls Tryz.prog 18 #[.agg #[.slice A n2 c, .int .i64 ((n2 : Int) - 1)]] w' (Tr.IPost (d2 : Int) w') from (by
    have := Tr.depth_any A c n2 (nd'.map cvN) ((n2 : Int) - 1) w' q (by rw [List.length_map, hn2]) hk2
    rw [← hn2, hd2, hn2] at this
    exact this))
  have h1 : ¬ (600 : Int) < (s.size : Int) := by omega
  have h2 : ¬ (600 : Int) < (t.size : Int) := by omega
  have f0 : ¬ (38 : Int) < (k1 : Int) := by omega
  have f1 : ¬ (38 : Int) < (k2 : Int) := by omega
  have f2 : ¬ (38 : Int) < (d1 : Int) := by omega
  have f3 : ¬ (38 : Int) < (d2 : Int) := by omega
  obtain ⟨j, hj, hj13⟩ : ∃ j : Nat, (n + 1).tmod 13 = -(j : Int) ∧ j < 13 := ⟨((-(n + 1)).tmod 13).toNat, by have := Int.tmod_nonneg 13 (show 0 ≤ -(n + 1) by omega); have h3 := Int.neg_tmod (n + 1) 13; omega, by have := Int.tmod_lt_of_pos (-(n + 1)) (show (0 : Int) < 13 by decide); omega⟩
  have hjz : (j : Int) < 13 := by omega
  obtain ⟨x, hx⟩ : ∃ x, Tk.sgns[j]? = some x := ⟨Tk.sgns[j], List.getElem?_eq_getElem (by show j < 13; exact hj13)⟩
  have hxm : x ∈ Tk.sgns := List.mem_of_getElem? hx
  have hls : s.data.toList.length ≤ 600 := by rw [show s.data.toList.length = s.size by simp]; exact hs
  have hlt : t.data.toList.length ≤ 600 := by rw [show t.data.toList.length = t.size by simp]; exact ht
  have hxs : (Tk.bs x).size ≤ 2 := (by decide : ∀ x ∈ Tk.sgns, (Tk.bs x).size ≤ 2) x hxm
  obtain ⟨m1, k3, b1, b2⟩ := brk_one ha g1
  obtain ⟨m2, k4, c1, c2, c3, c4, c5, c6⟩ := brk_two ha hb g1 g2 hls hlt (by omega) (by omega) hxm
  obtain ⟨n4, hn4⟩ : ∃ n4, m2.length = n4 := ⟨_, rfl⟩
  have e1 : m1.length = n1 := by have := congrArg List.length b2; rw [List.length_map, List.length_map, hn1] at this; exact this.symm
  rw [hn1, hn2] at c2 c3
  obtain ⟨ov, hov⟩ : ∃ ov, ov = Tr.ovL 27 0 0 (Tk.bs x) [(nd.map cvN, (n1 : Int) - 1), (nd'.map cvN, (n2 : Int) - 1)] := ⟨_, rfl⟩
  rw [← hov] at c2
  have hol : ov.length = n4 := by rw [← c2.len, List.length_map, hn4]
  obtain ⟨z1, hz1⟩ : ∃ z1 : ByteArray, z1 = (⟨#[40]⟩ ++ s) ++ ⟨#[10, 41]⟩ := ⟨_, rfl⟩
  obtain ⟨z2, hz2⟩ : ∃ z2 : ByteArray, z2 = ((((⟨#[40]⟩ ++ s) ++ ⟨#[10, 41]⟩ ++ Tk.bs x) ++ ⟨#[40]⟩) ++ t) ++ ⟨#[10, 41]⟩ := ⟨_, rfl⟩
  have hzl1 : z1.data.toList = 40 :: (s.data.toList ++ [10, 41]) := by rw [hz1]; simp
  have hzl2 : z2.data.toList = 40 :: (s.data.toList ++ 10 :: 41 :: (x ++ 40 :: (t.data.toList ++ [10, 41]))) := by rw [hz2]; simp [Tk.bs]
  have hzs1 : z1.size ≤ 1000 := by rw [hz1]; simp only [ByteArray.size_append]; show 1 + s.size + 2 ≤ 1000; omega
  have hzs2 : z2.size ≤ 2000 := by rw [hz2]; simp only [ByteArray.size_append]; show 1 + s.size + 2 + (Tk.bs x).size + 1 + t.size + 2 ≤ 2000; omega
  have HP3 := Lib.hid (fun w' (q : Below w.heap.size w w') => show Calls Tryz.prog 16 #[.string z1] w' (WGd (m1.map cvN) n1 w') from (expr_any z1 w' (hE.below q) (by omega)).mono (by rw [hzl1]; exact fun _ _ r => WGd.of b1 e1 r))
  have HP4 := Lib.hid (fun w' (q : Below w.heap.size w w') => show Calls Tryz.prog 16 #[.string z2] w' (WGd (m2.map cvN) n4 w') from (expr_any z2 w' (hE.below q) (by omega)).mono (by rw [hzl2]; exact fun _ _ r => WGd.of c1 hn4 r))
  have HS1 := Lib.hid (fun w' A B c d (hA : Nds w' A (nd.map cvN)) (hB : Nds w' B (m1.map cvN)) => same_any A B n1 c d ((n1 : Int) - 1) (nd.map cvN) (m1.map cvN) w' hA hB (likeN_of b2) (by rw [List.length_map, hn1]) (by omega) hk1)
  have HS2 := Lib.hid (fun w' A B c d (hA : Nds w' A (m2.map cvN)) (hB : Nds w' B ov) => same_any A B n4 c d ((n4 : Int) - 1) (m2.map cvN) ov w' hA hB c2 (by rw [List.length_map, hn4]) (by omega) c6)
  have c3' : ((Tr.ovA [(nd.map cvN, (n1 : Int) - 1), (nd'.map cvN, (n2 : Int) - 1)]).length : Int) = (n4 : Int) - 1 := by rw [c3]; omega
  have HOv := Lib.hid (fun w' R (q : Tr.Trs w' R [(nd.map cvN, (n1 : Int) - 1), (nd'.map cvN, (n2 : Int) - 1)]) => show Calls Tryz.prog 19 #[.agg #[.int .i64 27, .int .i64 0, .int .i64 0, .string (Tk.bs x), .slice none 0 0], .slice R 2 2] w' (WOv ov n4 w') from
    (Tr.over_any 27 0 0 (Tk.bs x) none 0 0 R 2 2 _ w' q rfl (by decide) (by
      intro z hz
      rcases List.mem_cons.1 hz with rfl | hz
      · exact ⟨by show (nd.map cvN).length ≤ 4000; rw [List.length_map]; exact hl1, hk1⟩
      · rcases List.mem_cons.1 hz with rfl | hz
        · exact ⟨by show (nd'.map cvN).length ≤ 4000; rw [List.length_map]; exact hl2, hk2⟩
        · cases hz) (by omega) (fun i => by
      match i with
      | 0 => exact Nat.zero_le _
      | 1 => show ([] ++ (nd.map cvN).map (Tr.mvN ((0 : Nat) : Int))).length ≤ 10000000; rw [List.nil_append, List.length_map, List.length_map]; omega
      | i + 2 => rw [List.take_of_length_le (by simp)]; omega)).mono fun e w'' ⟨A, c, r1, r2, _, r3⟩ => ⟨A, c, by rw [r1, c3', ← hov, hol], r3, hov ▸ r2⟩)
  have HX := Lib.hid hx
  have HZ1 := Lib.hid hz1
  have HZ2 := Lib.hid hz2
  have HL1 := Lib.hid (show n1 = (nd.map cvN).length by rw [List.length_map, hn1])
  have HL2 := Lib.hid (show n2 = (nd'.map cvN).length by rw [List.length_map, hn2])
  clear hE ha hb hs ht hn1 hn2 hx1 hnd1 hl1 hx2 hnd2 hl2 hk1 hk2 hd1 hd2 g1 g2 g3 g4 hx hxm hls hlt b1 b2 c1 c2 c3 c3' c4 c5 c6 hn4 e1 hov hol hz1 hz2 hzl1 hzl2 hzs1 hzs2
  go_enter Tryz.func6, Tryz.ntmps6
  go_wp2_with (first | (go_at_call 8; refine HS.out.mono ?_; rintro e w1 ⟨rfl, hb1⟩) | (go_at_call 16; refine (HP.out _ hb1).mono ?_))
  rintro e w2 ⟨A, c, rfl, hb2, hNd⟩
  have hbA := heap1 w2 (.cells #[.slice A n1 c, .int .i64 ((n1 : Int) - 1)] 25)
  have HW2 := Lib.hid (bt (bt hb1 hb2) hbA)
  have HB2 := Lib.hid (Bx.new w2 25 [.slice A n1 c, .int .i64 ((n1 : Int) - 1)])
  have HA2 := Lib.hid (hNd.below hbA)
  clear hb1 hb2 hNd hbA
  go_wp2_with (go_at_call 16; refine (HQ.out _ HW2.out).mono ?_)
  rintro e w3 ⟨B, c', rfl, hb3, hNd⟩
  have hbA := heap1 w3 (.cells #[.slice B n2 c', .int .i64 ((n2 : Int) - 1)] 25)
  have HX3 := Lib.hid (Bx.new w3 25 [.slice B n2 c', .int .i64 ((n2 : Int) - 1)])
  have HM3 := Lib.hid (hNd.below hbA)
  have HB3 := Lib.hid ((HB2.out.below hb3 HB2.out.lt).below hbA (Nat.lt_of_lt_of_le HB2.out.lt hb3.size))
  have HA3 := Lib.hid ((HA2.out.below hb3).below hbA)
  have HW3 := Lib.hid (bt (bt HW2.out hb3) hbA)
  clear HB2 HA2 HW2 hb3 hNd hbA
  go_wp2_with (go_at_call 17; refine (HN1.out _ HW3.out).mono ?_)
  rintro e w4 ⟨rfl, hb4⟩
  have HB4 := Lib.hid (HB3.out.below hb4 HB3.out.lt)
  have HX4 := Lib.hid (HX3.out.below hb4 HX3.out.lt)
  have HA4 := Lib.hid (HA3.out.below hb4)
  have HM4 := Lib.hid (HM3.out.below hb4)
  have HW4 := Lib.hid (bt HW3.out hb4)
  clear HB3 HX3 HA3 HM3 HW3 hb4
  go_wp2_with (go_at_call 17; refine (HN2.out _ HW4.out).mono ?_)
  rintro e w5 ⟨rfl, hb5⟩
  have HB5 := Lib.hid (HB4.out.below hb5 HB4.out.lt)
  have HX5 := Lib.hid (HX4.out.below hb5 HX4.out.lt)
  have HA5 := Lib.hid (HA4.out.below hb5)
  have HM5 := Lib.hid (HM4.out.below hb5)
  have HW5 := Lib.hid (bt HW4.out hb5)
  clear HB4 HX4 HA4 HM4 HW4 hb5
  have a0 := (HB5.out.cell 0).trans rfl
  have a1 := (HB5.out.cell 1).trans rfl
  go_wp2_with (go_at_call 18; refine (HD1.out _ _ _ HA5.out).mono ?_)
  rintro e w6 ⟨rfl, hb6⟩
  clear a0 a1
  have HB6 := Lib.hid (HB5.out.below hb6 HB5.out.lt)
  have HX6 := Lib.hid (HX5.out.below hb6 HX5.out.lt)
  have HA6 := Lib.hid (HA5.out.below hb6)
  have HM6 := Lib.hid (HM5.out.below hb6)
  have HW6 := Lib.hid (bt HW5.out hb6)
  clear HB5 HX5 HA5 HM5 HW5 hb6
  have a0 := (HX6.out.cell 0).trans rfl
  have a1 := (HX6.out.cell 1).trans rfl
  go_wp2_with (go_at_call 18; refine (HD2.out _ _ _ HM6.out).mono ?_)
  rintro e w7 ⟨rfl, hb7⟩
  clear a0 a1
  have HB7 := Lib.hid (HB6.out.below hb7 HB6.out.lt)
  have HX7 := Lib.hid (HX6.out.below hb7 HX6.out.lt)
  have HA7 := Lib.hid (HA6.out.below hb7)
  have HM7 := Lib.hid (HM6.out.below hb7)
  have HW7 := Lib.hid (bt HW6.out hb7)
  clear HB6 HX6 HA6 HM6 HW6 hb7
  have hcl := row_cell w7 j x HX.out
  have hbA := heap1 w7 (.cells #[.string ⟨#[43]⟩, .string ⟨#[45]⟩, .string ⟨#[42]⟩, .string ⟨#[47]⟩, .string ⟨#[37]⟩, .string ⟨#[61, 61]⟩, .string ⟨#[33, 61]⟩, .string ⟨#[60]⟩, .string ⟨#[60, 61]⟩, .string ⟨#[62]⟩, .string ⟨#[62, 61]⟩, .string ⟨#[38, 38]⟩, .string ⟨#[124, 124]⟩] 9)
  have HB8 := Lib.hid (HB7.out.below hbA HB7.out.lt)
  have HX8 := Lib.hid (HX7.out.below hbA HX7.out.lt)
  have HA8 := Lib.hid (HA7.out.below hbA)
  have HM8 := Lib.hid (HM7.out.below hbA)
  have HW8 := Lib.hid (bt HW7.out hbA)
  clear HB7 HX7 HA7 HM7 HW7 hbA
  go_wp2_with fail
  clear hcl
  rw [← HZ1.out]
  go_wp2_with (go_at_call 16; refine (HP3.out _ HW8.out).mono ?_)
  rintro e w9 ⟨C, c9, rfl, hb9, hNd⟩
  have hbA := heap1 w9 (.cells #[.slice C n1 c9, .int .i64 ((n1 : Int) - 1)] 25)
  have HY9 := Lib.hid (Bx.new w9 25 [.slice C n1 c9, .int .i64 ((n1 : Int) - 1)])
  have HC9 := Lib.hid (hNd.below hbA)
  have HB9 := Lib.hid ((HB8.out.below hb9 HB8.out.lt).below hbA (Nat.lt_of_lt_of_le HB8.out.lt hb9.size))
  have HX9 := Lib.hid ((HX8.out.below hb9 HX8.out.lt).below hbA (Nat.lt_of_lt_of_le HX8.out.lt hb9.size))
  have HA9 := Lib.hid ((HA8.out.below hb9).below hbA)
  have HM9 := Lib.hid ((HM8.out.below hb9).below hbA)
  have HW9 := Lib.hid (bt (bt HW8.out hb9) hbA)
  clear HB8 HX8 HA8 HM8 HW8 hb9 hNd hbA
  go_wp2_with fail
  rw [show ({ data := #[40] } ++ s ++ { data := #[10, 41] } ++ Tk.bs x ++ { data := #[40] } ++ t ++ { data := #[10, 41] } : ByteArray) = z2 from HZ2.out.symm]
  go_wp2_with (go_at_call 16; refine (HP4.out _ HW9.out).mono ?_)
  rintro e w10 ⟨D, c10, rfl, hb10, hNd⟩
  obtain ⟨W4, hW4⟩ : ∃ W4, w10.alloc (.cells #[.slice D n4 c10, .int .i64 ((n4 : Int) - 1)] 25) = W4 := ⟨_, rfl⟩
  have hbA := heap1 w10 (.cells #[.slice D n4 c10, .int .i64 ((n4 : Int) - 1)] 25)
  have hZ := Bx.new w10 25 [.slice D n4 c10, .int .i64 ((n4 : Int) - 1)]
  rw [hW4] at hbA hZ
  have HZ4 := Lib.hid hZ
  have HD4 := Lib.hid (hNd.below hbA)
  have HB4 := Lib.hid ((HB9.out.below hb10 HB9.out.lt).below hbA (Nat.lt_of_lt_of_le HB9.out.lt hb10.size))
  have HX4 := Lib.hid ((HX9.out.below hb10 HX9.out.lt).below hbA (Nat.lt_of_lt_of_le HX9.out.lt hb10.size))
  have HY4 := Lib.hid ((HY9.out.below hb10 HY9.out.lt).below hbA (Nat.lt_of_lt_of_le HY9.out.lt hb10.size))
  have HA4 := Lib.hid ((HA9.out.below hb10).below hbA)
  have HM4 := Lib.hid ((HM9.out.below hb10).below hbA)
  have HC4 := Lib.hid ((HC9.out.below hb10).below hbA)
  have HW4 := Lib.hid (bt (bt HW9.out hb10) hbA)
  have HE4 := Lib.hid hW4
  clear HB9 HX9 HY9 HA9 HM9 HC9 HW9 hb10 hNd hbA hZ hW4
  go_upto_region 14 with (fail)
  rw [HE4.out]
  obtain ⟨W5, hW5⟩ : ∃ W5 : World, { W4 with drawn := W4.drawn + 1 } = W5 := ⟨_, rfl⟩
  have hb5 : Below W4.heap.size W4 W5 := by rw [← hW5]; exact bdrew (Below.refl _ _)
  have hS : SS w2.heap.size w3.heap.size w9.heap.size w10.heap.size [.slice A n1 c, .int .i64 ((n1 : Int) - 1)] [.slice B n2 c', .int .i64 ((n2 : Int) - 1)] [.slice C n1 c9, .int .i64 ((n1 : Int) - 1)] [.slice D n4 c10, .int .i64 ((n4 : Int) - 1)] W5 := SS.below ⟨HB4.out, HX4.out, HY4.out, HZ4.out⟩ hb5
  have hA := HA4.out.below hb5
  have hM := HM4.out.below hb5
  have hC := HC4.out.below hb5
  have hD := HD4.out.below hb5
  have hw := bt HW4.out hb5
  refine wp_region_held (S := SS w2.heap.size w3.heap.size w9.heap.size w10.heap.size [.slice A n1 c, .int .i64 ((n1 : Int) - 1)] [.slice B n2 c', .int .i64 ((n2 : Int) - 1)] [.slice C n1 c9, .int .i64 ((n1 : Int) - 1)] [.slice D n4 c10, .int .i64 ((n4 : Int) - 1)]) (by kernel_rfl) ?_
  rw [hW5]
  clear hW5
  refine h_pure 0 ({ dst := some 109, op := Op.move (Operand.tmp 18), type := 26, pos := "law.go:121", after := #[], guard := none } : Oper) (.int .i64 0) (by kernel_rfl) rfl (by kernel_rfl) (by kernel_rfl) (fun _ _ _ h => h) rfl (y_move rfl rfl) hS ?_
  simp only [Act.put, List.setIfInBounds_toArray, List.set_cons_zero, List.set_cons_succ]
  refine h_pure 1 ({ dst := some 110, op := Op.binOp BinOp.eql 26 (Operand.tmp 109) (Operand.const (Value.int IntKind.i64 0)) 26, type := 4, pos := "law.go:121", after := #[{ on := 0, ground := Ground.data }], guard := none } : Oper) (.bool true) (by kernel_rfl) rfl (by kernel_rfl) (by kernel_rfl) (fun _ _ _ h => h) rfl (y_bin rfl rfl rfl (fun w => by simp [go_sem]) (fun w => by simp [go_sem])) hS ?_
  simp only [Act.put, List.setIfInBounds_toArray, List.set_cons_zero, List.set_cons_succ]
  refine h_pure 2 ({ dst := some 111, op := Op.move (Operand.tmp 110), type := 4, pos := "law.go:121", after := #[{ on := 1, ground := Ground.data }], guard := none } : Oper) (.bool true) (by kernel_rfl) rfl (by kernel_rfl) (by kernel_rfl) (fun _ _ _ h => h) rfl (y_move rfl rfl) hS ?_
  simp only [Act.put, List.setIfInBounds_toArray, List.set_cons_zero, List.set_cons_succ]
  refine h_pure 3 ({ dst := some 112, op := Op.load 25 (Operand.tmp 8), type := 25, pos := "law.go:121", after := #[{ on := 2, ground := Ground.guard }], guard := some (2, true) } : Oper) (.agg #[.slice A n1 c, .int .i64 ((n1 : Int) - 1)]) (by kernel_rfl) rfl (by kernel_rfl) (by kernel_rfl) (fun _ _ _ h => h) rfl (y_load rfl rfl (fun w' q => run_load25 ((q.1.cell 0).trans rfl) ((q.1.cell 1).trans rfl))) hS ?_
  simp only [Act.put, List.setIfInBounds_toArray, List.set_cons_zero, List.set_cons_succ]
  refine h_pure 4 ({ dst := some 113, op := Op.load 25 (Operand.tmp 16), type := 25, pos := "law.go:121", after := #[{ on := 2, ground := Ground.guard }], guard := some (2, true) } : Oper) (.agg #[.slice C n1 c9, .int .i64 ((n1 : Int) - 1)]) (by kernel_rfl) rfl (by kernel_rfl) (by kernel_rfl) (fun _ _ _ h => h) rfl (y_load rfl rfl (fun w' q => run_load25 ((q.2.2.1.cell 0).trans rfl) ((q.2.2.1.cell 1).trans rfl))) hS ?_
  simp only [Act.put, List.setIfInBounds_toArray, List.set_cons_zero, List.set_cons_succ]
  refine h_callx 5 ({ dst := some 114, op := Op.call { callee := Callee.value (Operand.func 15), args := #[Operand.tmp 112, Operand.tmp 113], argTypes := #[25, 25] }, type := 4, pos := "law.go:121", after := #[{ on := 3, ground := Ground.data }, { on := 4, ground := Ground.data }, { on := 2, ground := Ground.chain }, { on := 2, ground := Ground.guard }], guard := some (2, true) } : Oper) (args := #[.agg #[.slice A n1 c, .int .i64 ((n1 : Int) - 1)], .agg #[.slice C n1 c9, .int .i64 ((n1 : Int) - 1)]]) own15 rfl rfl (by kernel_rfl) rfl rfl (HS1.out _ _ _ _ _ hA hC) ?_
  rintro e w11 ⟨rfl, hb11⟩
  have hS11 := hS.below hb11
  refine .inr ⟨_, rfl, hS11, ?_⟩
  simp only [Act.put, List.setIfInBounds_toArray, List.set_cons_zero, List.set_cons_succ]
  refine h_pure 6 ({ dst := some 115, op := Op.pick (Operand.tmp 111) (Operand.tmp 114) (Operand.const (Value.bool false)), type := 4, pos := "law.go:121", after := #[{ on := 2, ground := Ground.data }, { on := 5, ground := Ground.data }], guard := none } : Oper) (.bool true) (by kernel_rfl) rfl (by kernel_rfl) (by kernel_rfl) (fun _ _ _ h => h) rfl (y_pickX rfl rfl rfl) hS11 ?_
  simp only [Act.put, List.setIfInBounds_toArray, List.set_cons_zero, List.set_cons_succ]
  refine h_pure 7 ({ dst := some 116, op := Op.move (Operand.tmp 115), type := 4, pos := "law.go:121", after := #[{ on := 6, ground := Ground.data }, { on := 5, ground := Ground.chain }], guard := none } : Oper) (.bool true) (by kernel_rfl) rfl (by kernel_rfl) (by kernel_rfl) (fun _ _ _ h => h) rfl (y_move rfl rfl) hS11 ?_
  simp only [Act.put, List.setIfInBounds_toArray, List.set_cons_zero, List.set_cons_succ]
  refine h_pure 8 ({ dst := some 117, op := Op.move (Operand.tmp 21), type := 26, pos := "law.go:121", after := #[{ on := 7, ground := Ground.guard }], guard := some (7, true) } : Oper) (.int .i64 0) (by kernel_rfl) rfl (by kernel_rfl) (by kernel_rfl) (fun _ _ _ h => h) rfl (y_move rfl rfl) hS11 ?_
  simp only [Act.put, List.setIfInBounds_toArray, List.set_cons_zero, List.set_cons_succ]
  refine h_pure 9 ({ dst := some 118, op := Op.binOp BinOp.eql 26 (Operand.tmp 117) (Operand.const (Value.int IntKind.i64 0)) 26, type := 4, pos := "law.go:121", after := #[{ on := 8, ground := Ground.data }, { on := 7, ground := Ground.guard }], guard := some (7, true) } : Oper) (.bool true) (by kernel_rfl) rfl (by kernel_rfl) (by kernel_rfl) (fun _ _ _ h => h) rfl (y_bin rfl rfl rfl (fun w => by simp [go_sem]) (fun w => by simp [go_sem])) hS11 ?_
  simp only [Act.put, List.setIfInBounds_toArray, List.set_cons_zero, List.set_cons_succ]
  refine h_pure 10 ({ dst := some 119, op := Op.pick (Operand.tmp 116) (Operand.tmp 118) (Operand.const (Value.bool false)), type := 4, pos := "law.go:121", after := #[{ on := 7, ground := Ground.data }, { on := 9, ground := Ground.data }], guard := none } : Oper) (.bool true) (by kernel_rfl) rfl (by kernel_rfl) (by kernel_rfl) (fun _ _ _ h => h) rfl (y_pickX rfl rfl rfl) hS11 ?_
  simp only [Act.put, List.setIfInBounds_toArray, List.set_cons_zero, List.set_cons_succ]
  refine h_pure 11 ({ dst := some 120, op := Op.move (Operand.tmp 119), type := 4, pos := "law.go:121", after := #[{ on := 10, ground := Ground.data }, { on := 7, ground := Ground.chain }], guard := none } : Oper) (.bool true) (by kernel_rfl) rfl (by kernel_rfl) (by kernel_rfl) (fun _ _ _ h => h) rfl (y_move rfl rfl) hS11 ?_
  simp only [Act.put, List.setIfInBounds_toArray, List.set_cons_zero, List.set_cons_succ]
  refine h_pure 12 ({ dst := some 121, op := Op.load 25 (Operand.tmp 19), type := 25, pos := "law.go:121", after := #[{ on := 11, ground := Ground.guard }], guard := some (11, true) } : Oper) (.agg #[.slice D n4 c10, .int .i64 ((n4 : Int) - 1)]) (by kernel_rfl) rfl (by kernel_rfl) (by kernel_rfl) (fun _ _ _ h => h) rfl (y_load rfl rfl (fun w' q => run_load25 ((q.2.2.2.cell 0).trans rfl) ((q.2.2.2.cell 1).trans rfl))) hS11 ?_
  simp only [Act.put, List.setIfInBounds_toArray, List.set_cons_zero, List.set_cons_succ]
  refine h_pure 13 ({ dst := some 122, op := Op.move (Operand.tmp 15), type := 9, pos := "law.go:121", after := #[{ on := 11, ground := Ground.guard }], guard := some (11, true) } : Oper) (.string (Tk.bs x)) (by kernel_rfl) rfl (by kernel_rfl) (by kernel_rfl) (fun _ _ _ h => h) rfl (y_move rfl rfl) hS11 ?_
  simp only [Act.put, List.setIfInBounds_toArray, List.set_cons_zero, List.set_cons_succ]
  refine h_pure 14 ({ dst := some 123, op := Op.build 39 #[(0, Operand.const (Value.int IntKind.i64 27)), (3, Operand.tmp 122)], type := 39, pos := "law.go:121", after := #[{ on := 13, ground := Ground.data }, { on := 11, ground := Ground.guard }], guard := some (11, true) } : Oper) (.agg #[.int .i64 27, .int .i64 0, .int .i64 0, .string (Tk.bs x), .slice none 0 0]) (by kernel_rfl) rfl (by kernel_rfl) (by kernel_rfl) (fun _ _ _ h => h) rfl (y_build39b rfl rfl) hS11 ?_
  simp only [Act.put, List.setIfInBounds_toArray, List.set_cons_zero, List.set_cons_succ]
  refine h_pure 15 ({ dst := some 124, op := Op.load 25 (Operand.tmp 8), type := 25, pos := "law.go:121", after := #[{ on := 11, ground := Ground.guard }], guard := some (11, true) } : Oper) (.agg #[.slice A n1 c, .int .i64 ((n1 : Int) - 1)]) (by kernel_rfl) rfl (by kernel_rfl) (by kernel_rfl) (fun _ _ _ h => h) rfl (y_load rfl rfl (fun w' q => run_load25 ((q.1.cell 0).trans rfl) ((q.1.cell 1).trans rfl))) hS11 ?_
  simp only [Act.put, List.setIfInBounds_toArray, List.set_cons_zero, List.set_cons_succ]
  refine h_pure 16 ({ dst := some 125, op := Op.load 25 (Operand.tmp 11), type := 25, pos := "law.go:121", after := #[{ on := 11, ground := Ground.guard }], guard := some (11, true) } : Oper) (.agg #[.slice B n2 c', .int .i64 ((n2 : Int) - 1)]) (by kernel_rfl) rfl (by kernel_rfl) (by kernel_rfl) (fun _ _ _ h => h) rfl (y_load rfl rfl (fun w' q => run_load25 ((q.2.1.cell 0).trans rfl) ((q.2.1.cell 1).trans rfl))) hS11 ?_
  simp only [Act.put, List.setIfInBounds_toArray, List.set_cons_zero, List.set_cons_succ]
  have hbR := heap1 w11 (.cells #[.slice A n1 c, .int .i64 ((n1 : Int) - 1), .slice B n2 c', .int .i64 ((n2 : Int) - 1)] 25)
  have hT := trs2 (c := c) (d := c') (r := (n1 : Int) - 1) (q := (n2 : Int) - 1) (hA.below hb11) (hM.below hb11) HL1.out HL2.out
  have hSR := hS11.below hbR
  refine h_one 17 ({ dst := some 126, op := Op.buildSlice 45 2 #[(0, Operand.tmp 124), (1, Operand.tmp 125)], type := 45, pos := "law.go:121", after := #[{ on := 15, ground := Ground.data }, { on := 16, ground := Ground.data }, { on := 11, ground := Ground.guard }], guard := some (11, true) } : Oper) rfl (by kernel_rfl) rfl (slice45 rfl rfl rfl ⟨hSR, ?_⟩) 
  simp only [Act.put, List.setIfInBounds_toArray, List.set_cons_zero, List.set_cons_succ]
  refine h_callx 18 ({ dst := some 127, op := Op.call { callee := Callee.value (Operand.func 19), args := #[Operand.tmp 123, Operand.tmp 126], argTypes := #[39, 45] }, type := 25, pos := "law.go:121", after := #[{ on := 14, ground := Ground.data }, { on := 17, ground := Ground.data }, { on := 11, ground := Ground.chain }, { on := 11, ground := Ground.guard }], guard := some (11, true) } : Oper) (args := #[.agg #[.int .i64 27, .int .i64 0, .int .i64 0, .string (Tk.bs x), .slice none 0 0], .slice (some ⟨w11.heap.size, 0, none⟩) 2 2]) own19 rfl rfl (by kernel_rfl) rfl rfl (HOv.out _ _ hT) ?_
  rintro e w12 ⟨O, c12, rfl, hb12, hO⟩
  have hS12 := hSR.below hb12
  refine .inr ⟨_, rfl, hS12, ?_⟩
  simp only [Act.put, List.setIfInBounds_toArray, List.set_cons_zero, List.set_cons_succ]
  refine h_callx 19 ({ dst := some 128, op := Op.call { callee := Callee.value (Operand.func 15), args := #[Operand.tmp 121, Operand.tmp 127], argTypes := #[25, 25] }, type := 4, pos := "law.go:121", after := #[{ on := 12, ground := Ground.data }, { on := 18, ground := Ground.data }, { on := 18, ground := Ground.chain }, { on := 11, ground := Ground.guard }], guard := some (11, true) } : Oper) (args := #[.agg #[.slice D n4 c10, .int .i64 ((n4 : Int) - 1)], .agg #[.slice O n4 c12, .int .i64 ((n4 : Int) - 1)]]) own15 rfl rfl (by kernel_rfl) rfl rfl (HS2.out _ _ _ _ _ (((hD.below hb11).below hbR).below hb12) hO) ?_
  rintro e w13 ⟨rfl, hb13⟩
  have hS13 := hS12.below hb13
  refine .inr ⟨_, rfl, hS13, ?_⟩
  simp only [Act.put, List.setIfInBounds_toArray, List.set_cons_zero, List.set_cons_succ]
  refine h_pure 20 ({ dst := some 129, op := Op.pick (Operand.tmp 120) (Operand.tmp 128) (Operand.const (Value.bool false)), type := 4, pos := "law.go:121", after := #[{ on := 11, ground := Ground.data }, { on := 19, ground := Ground.data }], guard := none } : Oper) (.bool true) (by kernel_rfl) rfl (by kernel_rfl) (by kernel_rfl) (fun _ _ _ h => h) rfl (y_pickX rfl rfl rfl) hS13 ?_
  simp only [Act.put, List.setIfInBounds_toArray, List.set_cons_zero, List.set_cons_succ]
  refine h_pure 21 ({ dst := some 6, op := Op.assign (Operand.tmp 129), type := 4, pos := "law.go:121", after := #[{ on := 20, ground := Ground.data }, { on := 19, ground := Ground.chain }, { on := 0, ground := Ground.phase }, { on := 1, ground := Ground.phase }, { on := 2, ground := Ground.phase }, { on := 3, ground := Ground.phase }, { on := 4, ground := Ground.phase }, { on := 5, ground := Ground.phase }, { on := 6, ground := Ground.phase }, { on := 7, ground := Ground.phase }, { on := 8, ground := Ground.phase }, { on := 9, ground := Ground.phase }, { on := 10, ground := Ground.phase }, { on := 11, ground := Ground.phase }, { on := 12, ground := Ground.phase }, { on := 13, ground := Ground.phase }, { on := 14, ground := Ground.phase }, { on := 15, ground := Ground.phase }, { on := 16, ground := Ground.phase }, { on := 17, ground := Ground.phase }, { on := 18, ground := Ground.phase }, { on := 19, ground := Ground.phase }, { on := 20, ground := Ground.phase }], guard := none } : Oper) (.bool true) (by kernel_rfl) rfl (by kernel_rfl) (by kernel_rfl) (fun _ _ _ h => h) rfl (y_assign rfl rfl) hS13 ?_
  simp only [Act.put, List.setIfInBounds_toArray, List.set_cons_zero, List.set_cons_succ]
  refine wpAnyH_done (by kernel_rfl) ?_ _
  have HF := Lib.hid (bt (bt (bt (bt hw hb11) hbR) hb12) hb13)
  clear hS hS11 hSR hS12 hS13 hb11 hbR hb12 hb13 hA hM hC hD hT hO hw
  go_wp2
  go_ret
  exact ⟨rfl, HF.out⟩
set_option maxRecDepth 100000 in
set_option maxHeartbeats 4000000 in
theorem br_pos (s t : ByteArray) (n : Int) (w : World) (hE : Tk.Errs w) (hs : s.size ≤ 600) (ht : t.size ≤ 600) (nd nd' : List Nd) (k1 k2 d1 d2 : Nat) (ha : ansOf exprR s.data.toList = .good nd k1) (hb : ansOf exprR t.data.toList = .good nd' k2) (hd1 : Tr.dpt (nd.map cvN) ((nd.length : Int) - 1) = d1) (hd2 : Tr.dpt (nd'.map cvN) ((nd'.length : Int) - 1) = d2) (g1 : k1 ≤ 38) (g2 : k2 ≤ 38) (g3 : d1 ≤ 38) (g4 : d2 ≤ 38) (hn0 : n ≤ 9223372036854775807) (hneg : ¬ n < 0) : Calls Tryz.prog 6 #[.string s, .string t, .int .i64 n] w (VPost (.bool true) w) := by
  have HS := Lib.hid (shown_any w hE)
  obtain ⟨n1, hn1⟩ : ∃ n1, nd.length = n1 := ⟨_, rfl⟩
  obtain ⟨n2, hn2⟩ : ∃ n2, nd'.length = n2 := ⟨_, rfl⟩
  obtain ⟨_, _, s1, _, hx1, hnd1, _, hl1, _⟩ := good_parts ha
  obtain ⟨_, _, s2, _, hx2, hnd2, _, hl2, _⟩ := good_parts hb
  have hk1 : ∀ x ∈ nd.map cvN, x.ks.length ≤ 4000 := fun x hx => by
    obtain ⟨y, hy, rfl⟩ := List.mem_map.1 hx
    have := expr_kids hx1 y (by rw [hnd1]; exact hy)
    rw [hnd1] at this
    show y.ks.length ≤ 4000; omega
  have hk2 : ∀ x ∈ nd'.map cvN, x.ks.length ≤ 4000 := fun x hx => by
    obtain ⟨y, hy, rfl⟩ := List.mem_map.1 hx
    have := expr_kids hx2 y (by rw [hnd2]; exact hy)
    rw [hnd2] at this
    show y.ks.length ≤ 4000; omega
  have HP := Lib.hid (fun w' (q : Below w.heap.size w w') => (expr_any s w' (hE.below q) (by omega)).mono fun _ _ r => WGd.of ha hn1 r)
  have HQ := Lib.hid (fun w' (q : Below w.heap.size w w') => (expr_any t w' (hE.below q) (by omega)).mono fun _ _ r => WGd.of hb hn2 r)
  have HN1 := Lib.hid (fun w' (q : Below w.heap.size w w') => show Calls Tryz.prog 17 #[.string s] w' (VPost (.int .i64 (k1 : Int)) w') from nest_of ha ▸ nest_any s w' (hE.below q) (by omega))
  have HN2 := Lib.hid (fun w' (q : Below w.heap.size w w') => show Calls Tryz.prog 17 #[.string t] w' (VPost (.int .i64 (k2 : Int)) w') from nest_of hb ▸ nest_any t w' (hE.below q) (by omega))
  have HD1 := Lib.hid (fun w' A c (q : Nds w' A (nd.map cvN)) => show Calls Tryz.prog 18 #[.agg #[.slice A n1 c, .int .i64 ((n1 : Int) - 1)]] w' (Tr.IPost (d1 : Int) w') from (by
    have := Tr.depth_any A c n1 (nd.map cvN) ((n1 : Int) - 1) w' q (by rw [List.length_map, hn1]) hk1
    rw [← hn1, hd1, hn1] at this
    exact this))
  have HD2 := Lib.hid (fun w' A c (q : Nds w' A (nd'.map cvN)) => show Calls Tryz.prog 18 #[.agg #[.slice A n2 c, .int .i64 ((n2 : Int) - 1)]] w' (Tr.IPost (d2 : Int) w') from (by
    have := Tr.depth_any A c n2 (nd'.map cvN) ((n2 : Int) - 1) w' q (by rw [List.length_map, hn2]) hk2
    rw [← hn2, hd2, hn2] at this
    exact this))
  have h1 : ¬ (600 : Int) < (s.size : Int) := by omega
  have h2 : ¬ (600 : Int) < (t.size : Int) := by omega
  have f0 : ¬ (38 : Int) < (k1 : Int) := by omega
  have f1 : ¬ (38 : Int) < (k2 : Int) := by omega
  have f2 : ¬ (38 : Int) < (d1 : Int) := by omega
  have f3 : ¬ (38 : Int) < (d2 : Int) := by omega
  obtain ⟨j, hj, hj13⟩ : ∃ j : Nat, n.tmod 13 = (j : Int) ∧ j < 13 := ⟨(n.tmod 13).toNat, by have := Int.tmod_nonneg 13 (show 0 ≤ n by omega); omega, by have := Int.tmod_lt_of_pos n (show (0 : Int) < 13 by decide); omega⟩
  have hjz : (j : Int) < 13 := by omega
  obtain ⟨x, hx⟩ : ∃ x, Tk.sgns[j]? = some x := ⟨Tk.sgns[j], List.getElem?_eq_getElem (by show j < 13; exact hj13)⟩
  have hxm : x ∈ Tk.sgns := List.mem_of_getElem? hx
  have hls : s.data.toList.length ≤ 600 := by rw [show s.data.toList.length = s.size by simp]; exact hs
  have hlt : t.data.toList.length ≤ 600 := by rw [show t.data.toList.length = t.size by simp]; exact ht
  have hxs : (Tk.bs x).size ≤ 2 := (by decide : ∀ x ∈ Tk.sgns, (Tk.bs x).size ≤ 2) x hxm
  obtain ⟨m1, k3, b1, b2⟩ := brk_one ha g1
  obtain ⟨m2, k4, c1, c2, c3, c4, c5, c6⟩ := brk_two ha hb g1 g2 hls hlt (by omega) (by omega) hxm
  obtain ⟨n4, hn4⟩ : ∃ n4, m2.length = n4 := ⟨_, rfl⟩
  have e1 : m1.length = n1 := by have := congrArg List.length b2; rw [List.length_map, List.length_map, hn1] at this; exact this.symm
  rw [hn1, hn2] at c2 c3
  obtain ⟨ov, hov⟩ : ∃ ov, ov = Tr.ovL 27 0 0 (Tk.bs x) [(nd.map cvN, (n1 : Int) - 1), (nd'.map cvN, (n2 : Int) - 1)] := ⟨_, rfl⟩
  rw [← hov] at c2
  have hol : ov.length = n4 := by rw [← c2.len, List.length_map, hn4]
  obtain ⟨z1, hz1⟩ : ∃ z1 : ByteArray, z1 = (⟨#[40]⟩ ++ s) ++ ⟨#[10, 41]⟩ := ⟨_, rfl⟩
  obtain ⟨z2, hz2⟩ : ∃ z2 : ByteArray, z2 = ((((⟨#[40]⟩ ++ s) ++ ⟨#[10, 41]⟩ ++ Tk.bs x) ++ ⟨#[40]⟩) ++ t) ++ ⟨#[10, 41]⟩ := ⟨_, rfl⟩
  have hzl1 : z1.data.toList = 40 :: (s.data.toList ++ [10, 41]) := by rw [hz1]; simp
  have hzl2 : z2.data.toList = 40 :: (s.data.toList ++ 10 :: 41 :: (x ++ 40 :: (t.data.toList ++ [10, 41]))) := by rw [hz2]; simp [Tk.bs]
  have hzs1 : z1.size ≤ 1000 := by rw [hz1]; simp only [ByteArray.size_append]; show 1 + s.size + 2 ≤ 1000; omega
  have hzs2 : z2.size ≤ 2000 := by rw [hz2]; simp only [ByteArray.size_append]; show 1 + s.size + 2 + (Tk.bs x).size + 1 + t.size + 2 ≤ 2000; omega
  have HP3 := Lib.hid (fun w' (q : Below w.heap.size w w') => show Calls Tryz.prog 16 #[.string z1] w' (WGd (m1.map cvN) n1 w') from (expr_any z1 w' (hE.below q) (by omega)).mono (by rw [hzl1]; exact fun _ _ r => WGd.of b1 e1 r))
  have HP4 := Lib.hid (fun w' (q : Below w.heap.size w w') => show Calls Tryz.prog 16 #[.string z2] w' (WGd (m2.map cvN) n4 w') from (expr_any z2 w' (hE.below q) (by omega)).mono (by rw [hzl2]; exact fun _ _ r => WGd.of c1 hn4 r))
  have HS1 := Lib.hid (fun w' A B c d (hA : Nds w' A (nd.map cvN)) (hB : Nds w' B (m1.map cvN)) => same_any A B n1 c d ((n1 : Int) - 1) (nd.map cvN) (m1.map cvN) w' hA hB (likeN_of b2) (by rw [List.length_map, hn1]) (by omega) hk1)
  have HS2 := Lib.hid (fun w' A B c d (hA : Nds w' A (m2.map cvN)) (hB : Nds w' B ov) => same_any A B n4 c d ((n4 : Int) - 1) (m2.map cvN) ov w' hA hB c2 (by rw [List.length_map, hn4]) (by omega) c6)
  have c3' : ((Tr.ovA [(nd.map cvN, (n1 : Int) - 1), (nd'.map cvN, (n2 : Int) - 1)]).length : Int) = (n4 : Int) - 1 := by rw [c3]; omega
  have HOv := Lib.hid (fun w' R (q : Tr.Trs w' R [(nd.map cvN, (n1 : Int) - 1), (nd'.map cvN, (n2 : Int) - 1)]) => show Calls Tryz.prog 19 #[.agg #[.int .i64 27, .int .i64 0, .int .i64 0, .string (Tk.bs x), .slice none 0 0], .slice R 2 2] w' (WOv ov n4 w') from
    (Tr.over_any 27 0 0 (Tk.bs x) none 0 0 R 2 2 _ w' q rfl (by decide) (by
      intro z hz
      rcases List.mem_cons.1 hz with rfl | hz
      · exact ⟨by show (nd.map cvN).length ≤ 4000; rw [List.length_map]; exact hl1, hk1⟩
      · rcases List.mem_cons.1 hz with rfl | hz
        · exact ⟨by show (nd'.map cvN).length ≤ 4000; rw [List.length_map]; exact hl2, hk2⟩
        · cases hz) (by omega) (fun i => by
      match i with
      | 0 => exact Nat.zero_le _
      | 1 => show ([] ++ (nd.map cvN).map (Tr.mvN ((0 : Nat) : Int))).length ≤ 10000000; rw [List.nil_append, List.length_map, List.length_map]; omega
      | i + 2 => rw [List.take_of_length_le (by simp)]; omega)).mono fun e w'' ⟨A, c, r1, r2, _, r3⟩ => ⟨A, c, by rw [r1, c3', ← hov, hol], r3, hov ▸ r2⟩)
  have HX := Lib.hid hx
  have HZ1 := Lib.hid hz1
  have HZ2 := Lib.hid hz2
  have HL1 := Lib.hid (show n1 = (nd.map cvN).length by rw [List.length_map, hn1])
  have HL2 := Lib.hid (show n2 = (nd'.map cvN).length by rw [List.length_map, hn2])
  clear hE ha hb hs ht hn1 hn2 hx1 hnd1 hl1 hx2 hnd2 hl2 hk1 hk2 hd1 hd2 g1 g2 g3 g4 hx hxm hls hlt b1 b2 c1 c2 c3 c3' c4 c5 c6 hn4 e1 hov hol hz1 hz2 hzl1 hzl2 hzs1 hzs2
  go_enter Tryz.func6, Tryz.ntmps6
  go_wp2_with (first | (go_at_call 8; refine HS.out.mono ?_; rintro e w1 ⟨rfl, hb1⟩) | (go_at_call 16; refine (HP.out _ hb1).mono ?_))
  rintro e w2 ⟨A, c, rfl, hb2, hNd⟩
  have hbA := heap1 w2 (.cells #[.slice A n1 c, .int .i64 ((n1 : Int) - 1)] 25)
  have HW2 := Lib.hid (bt (bt hb1 hb2) hbA)
  have HB2 := Lib.hid (Bx.new w2 25 [.slice A n1 c, .int .i64 ((n1 : Int) - 1)])
  have HA2 := Lib.hid (hNd.below hbA)
  clear hb1 hb2 hNd hbA
  go_wp2_with (go_at_call 16; refine (HQ.out _ HW2.out).mono ?_)
  rintro e w3 ⟨B, c', rfl, hb3, hNd⟩
  have hbA := heap1 w3 (.cells #[.slice B n2 c', .int .i64 ((n2 : Int) - 1)] 25)
  have HX3 := Lib.hid (Bx.new w3 25 [.slice B n2 c', .int .i64 ((n2 : Int) - 1)])
  have HM3 := Lib.hid (hNd.below hbA)
  have HB3 := Lib.hid ((HB2.out.below hb3 HB2.out.lt).below hbA (Nat.lt_of_lt_of_le HB2.out.lt hb3.size))
  have HA3 := Lib.hid ((HA2.out.below hb3).below hbA)
  have HW3 := Lib.hid (bt (bt HW2.out hb3) hbA)
  clear HB2 HA2 HW2 hb3 hNd hbA
  go_wp2_with (go_at_call 17; refine (HN1.out _ HW3.out).mono ?_)
  rintro e w4 ⟨rfl, hb4⟩
  have HB4 := Lib.hid (HB3.out.below hb4 HB3.out.lt)
  have HX4 := Lib.hid (HX3.out.below hb4 HX3.out.lt)
  have HA4 := Lib.hid (HA3.out.below hb4)
  have HM4 := Lib.hid (HM3.out.below hb4)
  have HW4 := Lib.hid (bt HW3.out hb4)
  clear HB3 HX3 HA3 HM3 HW3 hb4
  go_wp2_with (go_at_call 17; refine (HN2.out _ HW4.out).mono ?_)
  rintro e w5 ⟨rfl, hb5⟩
  have HB5 := Lib.hid (HB4.out.below hb5 HB4.out.lt)
  have HX5 := Lib.hid (HX4.out.below hb5 HX4.out.lt)
  have HA5 := Lib.hid (HA4.out.below hb5)
  have HM5 := Lib.hid (HM4.out.below hb5)
  have HW5 := Lib.hid (bt HW4.out hb5)
  clear HB4 HX4 HA4 HM4 HW4 hb5
  have a0 := (HB5.out.cell 0).trans rfl
  have a1 := (HB5.out.cell 1).trans rfl
  go_wp2_with (go_at_call 18; refine (HD1.out _ _ _ HA5.out).mono ?_)
  rintro e w6 ⟨rfl, hb6⟩
  clear a0 a1
  have HB6 := Lib.hid (HB5.out.below hb6 HB5.out.lt)
  have HX6 := Lib.hid (HX5.out.below hb6 HX5.out.lt)
  have HA6 := Lib.hid (HA5.out.below hb6)
  have HM6 := Lib.hid (HM5.out.below hb6)
  have HW6 := Lib.hid (bt HW5.out hb6)
  clear HB5 HX5 HA5 HM5 HW5 hb6
  have a0 := (HX6.out.cell 0).trans rfl
  have a1 := (HX6.out.cell 1).trans rfl
  go_wp2_with (go_at_call 18; refine (HD2.out _ _ _ HM6.out).mono ?_)
  rintro e w7 ⟨rfl, hb7⟩
  clear a0 a1
  have HB7 := Lib.hid (HB6.out.below hb7 HB6.out.lt)
  have HX7 := Lib.hid (HX6.out.below hb7 HX6.out.lt)
  have HA7 := Lib.hid (HA6.out.below hb7)
  have HM7 := Lib.hid (HM6.out.below hb7)
  have HW7 := Lib.hid (bt HW6.out hb7)
  clear HB6 HX6 HA6 HM6 HW6 hb7
  have hcl := row_cell w7 j x HX.out
  have hbA := heap1 w7 (.cells #[.string ⟨#[43]⟩, .string ⟨#[45]⟩, .string ⟨#[42]⟩, .string ⟨#[47]⟩, .string ⟨#[37]⟩, .string ⟨#[61, 61]⟩, .string ⟨#[33, 61]⟩, .string ⟨#[60]⟩, .string ⟨#[60, 61]⟩, .string ⟨#[62]⟩, .string ⟨#[62, 61]⟩, .string ⟨#[38, 38]⟩, .string ⟨#[124, 124]⟩] 9)
  have HB8 := Lib.hid (HB7.out.below hbA HB7.out.lt)
  have HX8 := Lib.hid (HX7.out.below hbA HX7.out.lt)
  have HA8 := Lib.hid (HA7.out.below hbA)
  have HM8 := Lib.hid (HM7.out.below hbA)
  have HW8 := Lib.hid (bt HW7.out hbA)
  clear HB7 HX7 HA7 HM7 HW7 hbA
  go_wp2_with fail
  clear hcl
  rw [← HZ1.out]
  go_wp2_with (go_at_call 16; refine (HP3.out _ HW8.out).mono ?_)
  rintro e w9 ⟨C, c9, rfl, hb9, hNd⟩
  have hbA := heap1 w9 (.cells #[.slice C n1 c9, .int .i64 ((n1 : Int) - 1)] 25)
  have HY9 := Lib.hid (Bx.new w9 25 [.slice C n1 c9, .int .i64 ((n1 : Int) - 1)])
  have HC9 := Lib.hid (hNd.below hbA)
  have HB9 := Lib.hid ((HB8.out.below hb9 HB8.out.lt).below hbA (Nat.lt_of_lt_of_le HB8.out.lt hb9.size))
  have HX9 := Lib.hid ((HX8.out.below hb9 HX8.out.lt).below hbA (Nat.lt_of_lt_of_le HX8.out.lt hb9.size))
  have HA9 := Lib.hid ((HA8.out.below hb9).below hbA)
  have HM9 := Lib.hid ((HM8.out.below hb9).below hbA)
  have HW9 := Lib.hid (bt (bt HW8.out hb9) hbA)
  clear HB8 HX8 HA8 HM8 HW8 hb9 hNd hbA
  go_wp2_with fail
  rw [show ({ data := #[40] } ++ s ++ { data := #[10, 41] } ++ Tk.bs x ++ { data := #[40] } ++ t ++ { data := #[10, 41] } : ByteArray) = z2 from HZ2.out.symm]
  go_wp2_with (go_at_call 16; refine (HP4.out _ HW9.out).mono ?_)
  rintro e w10 ⟨D, c10, rfl, hb10, hNd⟩
  obtain ⟨W4, hW4⟩ : ∃ W4, w10.alloc (.cells #[.slice D n4 c10, .int .i64 ((n4 : Int) - 1)] 25) = W4 := ⟨_, rfl⟩
  have hbA := heap1 w10 (.cells #[.slice D n4 c10, .int .i64 ((n4 : Int) - 1)] 25)
  have hZ := Bx.new w10 25 [.slice D n4 c10, .int .i64 ((n4 : Int) - 1)]
  rw [hW4] at hbA hZ
  have HZ4 := Lib.hid hZ
  have HD4 := Lib.hid (hNd.below hbA)
  have HB4 := Lib.hid ((HB9.out.below hb10 HB9.out.lt).below hbA (Nat.lt_of_lt_of_le HB9.out.lt hb10.size))
  have HX4 := Lib.hid ((HX9.out.below hb10 HX9.out.lt).below hbA (Nat.lt_of_lt_of_le HX9.out.lt hb10.size))
  have HY4 := Lib.hid ((HY9.out.below hb10 HY9.out.lt).below hbA (Nat.lt_of_lt_of_le HY9.out.lt hb10.size))
  have HA4 := Lib.hid ((HA9.out.below hb10).below hbA)
  have HM4 := Lib.hid ((HM9.out.below hb10).below hbA)
  have HC4 := Lib.hid ((HC9.out.below hb10).below hbA)
  have HW4 := Lib.hid (bt (bt HW9.out hb10) hbA)
  have HE4 := Lib.hid hW4
  clear HB9 HX9 HY9 HA9 HM9 HC9 HW9 hb10 hNd hbA hZ hW4
  go_upto_region 14 with (fail)
  rw [HE4.out]
  obtain ⟨W5, hW5⟩ : ∃ W5 : World, { W4 with drawn := W4.drawn + 1 } = W5 := ⟨_, rfl⟩
  have hb5 : Below W4.heap.size W4 W5 := by rw [← hW5]; exact bdrew (Below.refl _ _)
  have hS : SS w2.heap.size w3.heap.size w9.heap.size w10.heap.size [.slice A n1 c, .int .i64 ((n1 : Int) - 1)] [.slice B n2 c', .int .i64 ((n2 : Int) - 1)] [.slice C n1 c9, .int .i64 ((n1 : Int) - 1)] [.slice D n4 c10, .int .i64 ((n4 : Int) - 1)] W5 := SS.below ⟨HB4.out, HX4.out, HY4.out, HZ4.out⟩ hb5
  have hA := HA4.out.below hb5
  have hM := HM4.out.below hb5
  have hC := HC4.out.below hb5
  have hD := HD4.out.below hb5
  have hw := bt HW4.out hb5
  refine wp_region_held (S := SS w2.heap.size w3.heap.size w9.heap.size w10.heap.size [.slice A n1 c, .int .i64 ((n1 : Int) - 1)] [.slice B n2 c', .int .i64 ((n2 : Int) - 1)] [.slice C n1 c9, .int .i64 ((n1 : Int) - 1)] [.slice D n4 c10, .int .i64 ((n4 : Int) - 1)]) (by kernel_rfl) ?_
  rw [hW5]
  clear hW5
  refine h_pure 0 ({ dst := some 109, op := Op.move (Operand.tmp 18), type := 26, pos := "law.go:121", after := #[], guard := none } : Oper) (.int .i64 0) (by kernel_rfl) rfl (by kernel_rfl) (by kernel_rfl) (fun _ _ _ h => h) rfl (y_move rfl rfl) hS ?_
  simp only [Act.put, List.setIfInBounds_toArray, List.set_cons_zero, List.set_cons_succ]
  refine h_pure 1 ({ dst := some 110, op := Op.binOp BinOp.eql 26 (Operand.tmp 109) (Operand.const (Value.int IntKind.i64 0)) 26, type := 4, pos := "law.go:121", after := #[{ on := 0, ground := Ground.data }], guard := none } : Oper) (.bool true) (by kernel_rfl) rfl (by kernel_rfl) (by kernel_rfl) (fun _ _ _ h => h) rfl (y_bin rfl rfl rfl (fun w => by simp [go_sem]) (fun w => by simp [go_sem])) hS ?_
  simp only [Act.put, List.setIfInBounds_toArray, List.set_cons_zero, List.set_cons_succ]
  refine h_pure 2 ({ dst := some 111, op := Op.move (Operand.tmp 110), type := 4, pos := "law.go:121", after := #[{ on := 1, ground := Ground.data }], guard := none } : Oper) (.bool true) (by kernel_rfl) rfl (by kernel_rfl) (by kernel_rfl) (fun _ _ _ h => h) rfl (y_move rfl rfl) hS ?_
  simp only [Act.put, List.setIfInBounds_toArray, List.set_cons_zero, List.set_cons_succ]
  refine h_pure 3 ({ dst := some 112, op := Op.load 25 (Operand.tmp 8), type := 25, pos := "law.go:121", after := #[{ on := 2, ground := Ground.guard }], guard := some (2, true) } : Oper) (.agg #[.slice A n1 c, .int .i64 ((n1 : Int) - 1)]) (by kernel_rfl) rfl (by kernel_rfl) (by kernel_rfl) (fun _ _ _ h => h) rfl (y_load rfl rfl (fun w' q => run_load25 ((q.1.cell 0).trans rfl) ((q.1.cell 1).trans rfl))) hS ?_
  simp only [Act.put, List.setIfInBounds_toArray, List.set_cons_zero, List.set_cons_succ]
  refine h_pure 4 ({ dst := some 113, op := Op.load 25 (Operand.tmp 16), type := 25, pos := "law.go:121", after := #[{ on := 2, ground := Ground.guard }], guard := some (2, true) } : Oper) (.agg #[.slice C n1 c9, .int .i64 ((n1 : Int) - 1)]) (by kernel_rfl) rfl (by kernel_rfl) (by kernel_rfl) (fun _ _ _ h => h) rfl (y_load rfl rfl (fun w' q => run_load25 ((q.2.2.1.cell 0).trans rfl) ((q.2.2.1.cell 1).trans rfl))) hS ?_
  simp only [Act.put, List.setIfInBounds_toArray, List.set_cons_zero, List.set_cons_succ]
  refine h_callx 5 ({ dst := some 114, op := Op.call { callee := Callee.value (Operand.func 15), args := #[Operand.tmp 112, Operand.tmp 113], argTypes := #[25, 25] }, type := 4, pos := "law.go:121", after := #[{ on := 3, ground := Ground.data }, { on := 4, ground := Ground.data }, { on := 2, ground := Ground.chain }, { on := 2, ground := Ground.guard }], guard := some (2, true) } : Oper) (args := #[.agg #[.slice A n1 c, .int .i64 ((n1 : Int) - 1)], .agg #[.slice C n1 c9, .int .i64 ((n1 : Int) - 1)]]) own15 rfl rfl (by kernel_rfl) rfl rfl (HS1.out _ _ _ _ _ hA hC) ?_
  rintro e w11 ⟨rfl, hb11⟩
  have hS11 := hS.below hb11
  refine .inr ⟨_, rfl, hS11, ?_⟩
  simp only [Act.put, List.setIfInBounds_toArray, List.set_cons_zero, List.set_cons_succ]
  refine h_pure 6 ({ dst := some 115, op := Op.pick (Operand.tmp 111) (Operand.tmp 114) (Operand.const (Value.bool false)), type := 4, pos := "law.go:121", after := #[{ on := 2, ground := Ground.data }, { on := 5, ground := Ground.data }], guard := none } : Oper) (.bool true) (by kernel_rfl) rfl (by kernel_rfl) (by kernel_rfl) (fun _ _ _ h => h) rfl (y_pickX rfl rfl rfl) hS11 ?_
  simp only [Act.put, List.setIfInBounds_toArray, List.set_cons_zero, List.set_cons_succ]
  refine h_pure 7 ({ dst := some 116, op := Op.move (Operand.tmp 115), type := 4, pos := "law.go:121", after := #[{ on := 6, ground := Ground.data }, { on := 5, ground := Ground.chain }], guard := none } : Oper) (.bool true) (by kernel_rfl) rfl (by kernel_rfl) (by kernel_rfl) (fun _ _ _ h => h) rfl (y_move rfl rfl) hS11 ?_
  simp only [Act.put, List.setIfInBounds_toArray, List.set_cons_zero, List.set_cons_succ]
  refine h_pure 8 ({ dst := some 117, op := Op.move (Operand.tmp 21), type := 26, pos := "law.go:121", after := #[{ on := 7, ground := Ground.guard }], guard := some (7, true) } : Oper) (.int .i64 0) (by kernel_rfl) rfl (by kernel_rfl) (by kernel_rfl) (fun _ _ _ h => h) rfl (y_move rfl rfl) hS11 ?_
  simp only [Act.put, List.setIfInBounds_toArray, List.set_cons_zero, List.set_cons_succ]
  refine h_pure 9 ({ dst := some 118, op := Op.binOp BinOp.eql 26 (Operand.tmp 117) (Operand.const (Value.int IntKind.i64 0)) 26, type := 4, pos := "law.go:121", after := #[{ on := 8, ground := Ground.data }, { on := 7, ground := Ground.guard }], guard := some (7, true) } : Oper) (.bool true) (by kernel_rfl) rfl (by kernel_rfl) (by kernel_rfl) (fun _ _ _ h => h) rfl (y_bin rfl rfl rfl (fun w => by simp [go_sem]) (fun w => by simp [go_sem])) hS11 ?_
  simp only [Act.put, List.setIfInBounds_toArray, List.set_cons_zero, List.set_cons_succ]
  refine h_pure 10 ({ dst := some 119, op := Op.pick (Operand.tmp 116) (Operand.tmp 118) (Operand.const (Value.bool false)), type := 4, pos := "law.go:121", after := #[{ on := 7, ground := Ground.data }, { on := 9, ground := Ground.data }], guard := none } : Oper) (.bool true) (by kernel_rfl) rfl (by kernel_rfl) (by kernel_rfl) (fun _ _ _ h => h) rfl (y_pickX rfl rfl rfl) hS11 ?_
  simp only [Act.put, List.setIfInBounds_toArray, List.set_cons_zero, List.set_cons_succ]
  refine h_pure 11 ({ dst := some 120, op := Op.move (Operand.tmp 119), type := 4, pos := "law.go:121", after := #[{ on := 10, ground := Ground.data }, { on := 7, ground := Ground.chain }], guard := none } : Oper) (.bool true) (by kernel_rfl) rfl (by kernel_rfl) (by kernel_rfl) (fun _ _ _ h => h) rfl (y_move rfl rfl) hS11 ?_
  simp only [Act.put, List.setIfInBounds_toArray, List.set_cons_zero, List.set_cons_succ]
  refine h_pure 12 ({ dst := some 121, op := Op.load 25 (Operand.tmp 19), type := 25, pos := "law.go:121", after := #[{ on := 11, ground := Ground.guard }], guard := some (11, true) } : Oper) (.agg #[.slice D n4 c10, .int .i64 ((n4 : Int) - 1)]) (by kernel_rfl) rfl (by kernel_rfl) (by kernel_rfl) (fun _ _ _ h => h) rfl (y_load rfl rfl (fun w' q => run_load25 ((q.2.2.2.cell 0).trans rfl) ((q.2.2.2.cell 1).trans rfl))) hS11 ?_
  simp only [Act.put, List.setIfInBounds_toArray, List.set_cons_zero, List.set_cons_succ]
  refine h_pure 13 ({ dst := some 122, op := Op.move (Operand.tmp 15), type := 9, pos := "law.go:121", after := #[{ on := 11, ground := Ground.guard }], guard := some (11, true) } : Oper) (.string (Tk.bs x)) (by kernel_rfl) rfl (by kernel_rfl) (by kernel_rfl) (fun _ _ _ h => h) rfl (y_move rfl rfl) hS11 ?_
  simp only [Act.put, List.setIfInBounds_toArray, List.set_cons_zero, List.set_cons_succ]
  refine h_pure 14 ({ dst := some 123, op := Op.build 39 #[(0, Operand.const (Value.int IntKind.i64 27)), (3, Operand.tmp 122)], type := 39, pos := "law.go:121", after := #[{ on := 13, ground := Ground.data }, { on := 11, ground := Ground.guard }], guard := some (11, true) } : Oper) (.agg #[.int .i64 27, .int .i64 0, .int .i64 0, .string (Tk.bs x), .slice none 0 0]) (by kernel_rfl) rfl (by kernel_rfl) (by kernel_rfl) (fun _ _ _ h => h) rfl (y_build39b rfl rfl) hS11 ?_
  simp only [Act.put, List.setIfInBounds_toArray, List.set_cons_zero, List.set_cons_succ]
  refine h_pure 15 ({ dst := some 124, op := Op.load 25 (Operand.tmp 8), type := 25, pos := "law.go:121", after := #[{ on := 11, ground := Ground.guard }], guard := some (11, true) } : Oper) (.agg #[.slice A n1 c, .int .i64 ((n1 : Int) - 1)]) (by kernel_rfl) rfl (by kernel_rfl) (by kernel_rfl) (fun _ _ _ h => h) rfl (y_load rfl rfl (fun w' q => run_load25 ((q.1.cell 0).trans rfl) ((q.1.cell 1).trans rfl))) hS11 ?_
  simp only [Act.put, List.setIfInBounds_toArray, List.set_cons_zero, List.set_cons_succ]
  refine h_pure 16 ({ dst := some 125, op := Op.load 25 (Operand.tmp 11), type := 25, pos := "law.go:121", after := #[{ on := 11, ground := Ground.guard }], guard := some (11, true) } : Oper) (.agg #[.slice B n2 c', .int .i64 ((n2 : Int) - 1)]) (by kernel_rfl) rfl (by kernel_rfl) (by kernel_rfl) (fun _ _ _ h => h) rfl (y_load rfl rfl (fun w' q => run_load25 ((q.2.1.cell 0).trans rfl) ((q.2.1.cell 1).trans rfl))) hS11 ?_
  simp only [Act.put, List.setIfInBounds_toArray, List.set_cons_zero, List.set_cons_succ]
  have hbR := heap1 w11 (.cells #[.slice A n1 c, .int .i64 ((n1 : Int) - 1), .slice B n2 c', .int .i64 ((n2 : Int) - 1)] 25)
  have hT := trs2 (c := c) (d := c') (r := (n1 : Int) - 1) (q := (n2 : Int) - 1) (hA.below hb11) (hM.below hb11) HL1.out HL2.out
  have hSR := hS11.below hbR
  refine h_one 17 ({ dst := some 126, op := Op.buildSlice 45 2 #[(0, Operand.tmp 124), (1, Operand.tmp 125)], type := 45, pos := "law.go:121", after := #[{ on := 15, ground := Ground.data }, { on := 16, ground := Ground.data }, { on := 11, ground := Ground.guard }], guard := some (11, true) } : Oper) rfl (by kernel_rfl) rfl (slice45 rfl rfl rfl ⟨hSR, ?_⟩) 
  simp only [Act.put, List.setIfInBounds_toArray, List.set_cons_zero, List.set_cons_succ]
  refine h_callx 18 ({ dst := some 127, op := Op.call { callee := Callee.value (Operand.func 19), args := #[Operand.tmp 123, Operand.tmp 126], argTypes := #[39, 45] }, type := 25, pos := "law.go:121", after := #[{ on := 14, ground := Ground.data }, { on := 17, ground := Ground.data }, { on := 11, ground := Ground.chain }, { on := 11, ground := Ground.guard }], guard := some (11, true) } : Oper) (args := #[.agg #[.int .i64 27, .int .i64 0, .int .i64 0, .string (Tk.bs x), .slice none 0 0], .slice (some ⟨w11.heap.size, 0, none⟩) 2 2]) own19 rfl rfl (by kernel_rfl) rfl rfl (HOv.out _ _ hT) ?_
  rintro e w12 ⟨O, c12, rfl, hb12, hO⟩
  have hS12 := hSR.below hb12
  refine .inr ⟨_, rfl, hS12, ?_⟩
  simp only [Act.put, List.setIfInBounds_toArray, List.set_cons_zero, List.set_cons_succ]
  refine h_callx 19 ({ dst := some 128, op := Op.call { callee := Callee.value (Operand.func 15), args := #[Operand.tmp 121, Operand.tmp 127], argTypes := #[25, 25] }, type := 4, pos := "law.go:121", after := #[{ on := 12, ground := Ground.data }, { on := 18, ground := Ground.data }, { on := 18, ground := Ground.chain }, { on := 11, ground := Ground.guard }], guard := some (11, true) } : Oper) (args := #[.agg #[.slice D n4 c10, .int .i64 ((n4 : Int) - 1)], .agg #[.slice O n4 c12, .int .i64 ((n4 : Int) - 1)]]) own15 rfl rfl (by kernel_rfl) rfl rfl (HS2.out _ _ _ _ _ (((hD.below hb11).below hbR).below hb12) hO) ?_
  rintro e w13 ⟨rfl, hb13⟩
  have hS13 := hS12.below hb13
  refine .inr ⟨_, rfl, hS13, ?_⟩
  simp only [Act.put, List.setIfInBounds_toArray, List.set_cons_zero, List.set_cons_succ]
  refine h_pure 20 ({ dst := some 129, op := Op.pick (Operand.tmp 120) (Operand.tmp 128) (Operand.const (Value.bool false)), type := 4, pos := "law.go:121", after := #[{ on := 11, ground := Ground.data }, { on := 19, ground := Ground.data }], guard := none } : Oper) (.bool true) (by kernel_rfl) rfl (by kernel_rfl) (by kernel_rfl) (fun _ _ _ h => h) rfl (y_pickX rfl rfl rfl) hS13 ?_
  simp only [Act.put, List.setIfInBounds_toArray, List.set_cons_zero, List.set_cons_succ]
  refine h_pure 21 ({ dst := some 6, op := Op.assign (Operand.tmp 129), type := 4, pos := "law.go:121", after := #[{ on := 20, ground := Ground.data }, { on := 19, ground := Ground.chain }, { on := 0, ground := Ground.phase }, { on := 1, ground := Ground.phase }, { on := 2, ground := Ground.phase }, { on := 3, ground := Ground.phase }, { on := 4, ground := Ground.phase }, { on := 5, ground := Ground.phase }, { on := 6, ground := Ground.phase }, { on := 7, ground := Ground.phase }, { on := 8, ground := Ground.phase }, { on := 9, ground := Ground.phase }, { on := 10, ground := Ground.phase }, { on := 11, ground := Ground.phase }, { on := 12, ground := Ground.phase }, { on := 13, ground := Ground.phase }, { on := 14, ground := Ground.phase }, { on := 15, ground := Ground.phase }, { on := 16, ground := Ground.phase }, { on := 17, ground := Ground.phase }, { on := 18, ground := Ground.phase }, { on := 19, ground := Ground.phase }, { on := 20, ground := Ground.phase }], guard := none } : Oper) (.bool true) (by kernel_rfl) rfl (by kernel_rfl) (by kernel_rfl) (fun _ _ _ h => h) rfl (y_assign rfl rfl) hS13 ?_
  simp only [Act.put, List.setIfInBounds_toArray, List.set_cons_zero, List.set_cons_succ]
  refine wpAnyH_done (by kernel_rfl) ?_ _
  have HF := Lib.hid (bt (bt (bt (bt hw hb11) hbR) hb12) hb13)
  clear hS hS11 hSR hS12 hS13 hb11 hbR hb12 hb13 hA hM hC hD hT hO hw
  go_wp2
  go_ret
  exact ⟨rfl, HF.out⟩
theorem parseBrackets_any (s t : ByteArray) (n : Int) (w : World) (hE : Tk.Errs w) (h1 : -9223372036854775808 ≤ n) (h2 : n ≤ 9223372036854775807) : Calls Tryz.prog 6 #[.string s, .string t, .int .i64 n] w (VPost (.bool true) w) := by
  by_cases hl : s.size ≤ 600 ∧ t.size ≤ 600
  case neg => exact br_long s t n w hE hl
  obtain ⟨hs, ht⟩ := hl
  cases ha : ansOf exprR s.data.toList with
  | bad p e => exact br_bad1 s t n w hE hs ht p e ha
  | good nd k1 =>
    cases hb : ansOf exprR t.data.toList with
    | bad p e => exact br_bad2 s t n w hE hs ht nd k1 p e ha hb
    | good nd' k2 =>
      by_cases hm : k1 ≤ 38 ∧ k2 ≤ 38 ∧ Tr.dpt (nd.map cvN) ((nd.length : Int) - 1) ≤ 38 ∧ Tr.dpt (nd'.map cvN) ((nd'.length : Int) - 1) ≤ 38
      case neg => exact br_deep s t n w hE hs ht nd nd' k1 k2 _ _ ha hb rfl rfl hm
      obtain ⟨g1, g2, g3, g4⟩ := hm
      by_cases hn : n < 0
      · exact br_neg s t n w hE hs ht nd nd' k1 k2 _ _ ha hb rfl rfl g1 g2 g3 g4 h1 hn
      · exact br_pos s t n w hE hs ht nd nd' k1 k2 _ _ ha hb rfl rfl g1 g2 g3 g4 h2 hn
end
end Go.Proofs.YtdoeinjplgeadaaGreatDoor
