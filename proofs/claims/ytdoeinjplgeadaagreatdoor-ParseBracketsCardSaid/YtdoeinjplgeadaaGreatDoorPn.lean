/- PROVED here: the parser makes no more nodes than it takes tokens, and no more than 40 constructs are open. No condition but those in each theorem's own head. -/
import Derived.Test.YtdoeinjplgeadaaGreatDoorPc
namespace Go.Proofs.YtdoeinjplgeadaaGreatDoor

/-- what an answer keeps: k tokens more are taken than nodes made; at most 40 constructs are open -/
def Nk (s : St) (k : Int) (r : Rs) : Prop := ∀ v s', r = .ok v s' → ((s'.nd.length : Int) + s.nx + k ≤ s.nd.length + s'.nx ∧ s.nx ≤ s'.nx) ∧ (s.op ≤ 40 → s.mo ≤ 40 → s'.op ≤ 40 ∧ s'.mo ≤ 40)
theorem Nk.bind {s : St} {k k2 : Int} {r : Rs} {f : List Int → St → Rs} (h : Nk s k r) (q : ∀ v s', Nk s' k2 (f v s')) (k3 : Int) (hk : k3 ≤ k + k2) : Nk s k3 (r.bind f) := fun v s' e => by
  obtain ⟨v1, s1, e1, e2⟩ := Rs.bind_ok e
  have a := h v1 s1 e1
  have b := q v1 s1 v s' e2
  exact ⟨⟨by have := a.1; have := b.1; omega, by have := a.1; have := b.1; omega⟩, fun h1 h2 => b.2 (a.2 h1 h2).1 (a.2 h1 h2).2⟩
theorem Nk.weak {s : St} {k k' : Int} {r : Rs} (h : Nk s k r) (hk : k' ≤ k) : Nk s k' r := fun v s' e => ⟨⟨by have := (h v s' e).1; omega, (h v s' e).1.2⟩, (h v s' e).2⟩
theorem nk_here (s : St) (v : List Int) : Nk s 0 (.ok v s) := fun v s' e => by injection e with _ e; subst e; exact ⟨⟨by omega, Nat.le_refl _⟩, fun h1 h2 => ⟨h1, h2⟩⟩
theorem nk_no (s : St) (k : Int) (p e : Nat) : Nk s k (.no p e) := fun v s' e => by cases e
theorem nk_add (s : St) (kd n pl : Int) (tx : List UInt8) (ks : List Int) : Nk s (-1) (addM kd n pl tx ks s) := fun v s' e => by
  unfold addM at e; injection e with _ e; subst e
  exact ⟨⟨by simp; omega, Nat.le_refl _⟩, fun h1 h2 => ⟨h1, h2⟩⟩
theorem nk_take {s : St} {k : Int} {r : Rs} (h : Nk (takeS s) k r) : Nk s (k + 1) r := fun v s' e => by
  have a := h v s' e
  have e1 : (takeS s).nd = s.nd := rfl
  have e2 : (takeS s).nx = s.nx + 1 := rfl
  rw [e1, e2] at a
  exact ⟨⟨by have := a.1; omega, by have := a.1; omega⟩, a.2⟩
section
variable (ts : List Tok) (s : St)
theorem nk_exp (x : List UInt8) : Nk s 1 (expM ts x s) := by
  unfold expM; split
  · exact (nk_take (nk_here _ _)).weak (by omega)
  · exact nk_no _ _ _ _
theorem nk_name : Nk s 1 (nameM ts s) := by
  unfold nameM; split
  · exact (nk_take (nk_here _ _)).weak (by omega)
  · exact nk_no _ _ _ _
theorem nk_end : Nk s 0 (endM ts s) := by
  unfold endM; split
  · exact nk_here _ _
  · exact nk_no _ _ _ _
theorem nk_beg (x : List UInt8) : Nk s 1 (begM ts x s) := by
  unfold begM; split
  · exact nk_no _ _ _ _
  · rename_i q
    intro v s' e
    obtain ⟨v1, s1, e1, e2⟩ := Rs.bind_ok e
    have a := nk_exp ts s x v1 s1 e1
    injection e2 with _ e2; subst e2
    have hs : sees ts x s = true ∧ s1.op = s.op := by
      unfold expM at e1; split at e1
      · rename_i q1; injection e1 with _ e1; subst e1; exact ⟨q1, rfl⟩
      · cases e1
    refine ⟨⟨a.1.1, a.1.2⟩, fun h1 h2 => ?_⟩
    have b := a.2 h1 h2
    have : s.op ≠ 40 := fun h => q ⟨hs.1, h⟩
    have := hs.2
    show s1.op + 1 ≤ 40 ∧ max s1.mo (s1.op + 1) ≤ 40
    omega
theorem nk_fin (x : List UInt8) : Nk s 1 (finM ts x s) := by
  unfold finM
  intro v s' e
  obtain ⟨v1, s1, e1, e2⟩ := Rs.bind_ok e
  have a := nk_exp ts s x v1 s1 e1
  injection e2 with _ e2; subst e2
  refine ⟨⟨a.1.1, a.1.2⟩, fun h1 h2 => ?_⟩
  have b := a.2 h1 h2
  show s1.op - 1 ≤ 40 ∧ s1.mo ≤ 40
  omega
theorem nk_type : Nk s 1 (typeM ts s) := by
  unfold typeM; simp only; split
  · exact nk_no _ _ _ _
  · exact (nk_take (nk_here _ _)).weak (by omega)
theorem nk_leaf (kd : Nat) : Nk s 0 (leafM ts kd s) := by
  unfold leafM; simp only
  exact (nk_name ts s).bind (fun _ s => nk_add _ _ _ _ _ _) 0 (by omega)
theorem nk_typed (kd : Nat) (pl : Int) : Nk s 1 (typedM ts kd pl s) := by
  unfold typedM; simp only
  exact (nk_name ts s).bind (fun _ s => (nk_type ts s).bind (fun _ s => nk_add _ _ _ _ _ _) 0 (by omega)) 1 (by omega)
theorem nk_mark (kd : Nat) : Nk s 1 (markM ts kd s) := by
  unfold markM; simp only
  exact nk_take ((nk_name ts _).bind (fun _ s => nk_add _ _ _ _ _ _) 0 (by omega))
theorem nk_ended (v : List Int) : Nk s 1 (endedM ts v s) := by
  unfold endedM
  exact (nk_exp ts s _).bind (fun _ s => nk_here _ _) 1 (by omega)
theorem nk_param : Nk s 1 (paramM ts s) := by unfold paramM; exact nk_typed ts s _ _
end
def JobNk (rec : Job → St → Rs) : Prop := ∀ s, Nk s 0 (rec .una s) ∧ (∀ r, Nk s 0 (rec (.bin r) s)) ∧ (∀ r l, Nk s 0 (rec (.loop r l) s)) ∧ (∀ a, Nk s 1 (rec (.exprs a) s)) ∧ Nk s 0 (rec .stmt s) ∧ (∀ p a, Nk s 0 (rec (.stmts p a) s)) ∧ (∀ k a, Nk s 0 (rec (.vars k a) s)) ∧ (∀ a, Nk s 1 (rec (.params a) s)) ∧ ∀ a, Nk s 0 (rec (.procs a) s)
section
variable (ts : List Tok) {rec : Job → St → Rs} (hr : JobNk rec) (s : St)
include hr
theorem nk_expr : Nk s 0 (exprM rec s) := (hr s).2.1 1
theorem nk_idx : Nk s 2 (idxM ts rec s) := by
  unfold idxM
  exact (nk_beg ts s _).bind (fun _ s => (nk_expr hr s).bind (fun _ s => (nk_fin ts s _).bind (fun _ s => nk_here _ _) 1 (by omega)) 1 (by omega)) 2 (by omega)
theorem nk_paren : Nk s 2 ((begM ts [40] s).bind fun _ s => (exprM rec s).bind fun v s => (finM ts [41] s).bind fun _ s => .ok v s) :=
  (nk_beg ts s _).bind (fun _ s => (nk_expr hr s).bind (fun _ s => (nk_fin ts s _).bind (fun _ s => nk_here _ _) 1 (by omega)) 1 (by omega)) 2 (by omega)
theorem nk_vari : Nk s 0 (variM ts rec s) := by
  unfold variM; simp only
  refine (nk_name ts s).bind (fun _ s => ?_) 0 (k2 := -1) (by omega)
  split
  · exact (nk_idx ts hr s).bind (fun _ s => nk_add _ _ _ _ _ _) _ (by omega)
  · exact nk_add _ _ _ _ _ _
theorem nk_sign : Nk s 0 (signM ts rec s) := by
  unfold signM; simp only
  refine (nk_beg ts s _).bind (fun _ s => (hr s).1.bind (fun _ s => ?_) (-1) (k2 := -1) (by omega)) 0 (by omega)
  intro v s' e
  have a := nk_add _ _ _ _ _ _ v s' e
  exact ⟨a.1, fun h1 h2 => a.2 (by show s.op - 1 ≤ 40; omega) h2⟩
theorem nk_una : Nk s 0 (unaM ts rec s) := by
  unfold unaM; simp only
  split
  · exact nk_vari ts hr s
  split
  · exact (nk_take (nk_add _ _ _ _ _ _)).weak (by omega)
  split
  · exact nk_sign ts hr s
  split
  · exact (nk_take (nk_add _ _ _ _ _ _)).weak (by omega)
  split
  · exact (nk_mark ts s _).weak (by omega)
  split
  · exact (nk_mark ts s _).weak (by omega)
  split
  · exact (nk_paren ts hr s).weak (by omega)
  · exact nk_no _ _ _ _
theorem nk_bin (r : Nat) : Nk s 0 (binM rec r s) := by
  unfold binM; split
  · exact (hr s).1
  · exact ((hr s).2.1 _).bind (fun _ s => (hr s).2.2.1 _ _) 0 (by omega)
theorem nk_loop (r : Nat) (l : List Int) : Nk s 0 (loopM ts rec r l s) := by
  unfold loopM; simp only; split
  · exact (nk_take (((hr _).2.1 _).bind (fun _ s => (nk_add _ _ _ _ _ _).bind (fun _ s => (hr s).2.2.1 _ _) (-1) (by omega)) (-1) (by omega))).weak (by omega)
  · exact nk_here _ _
theorem nk_exprs (a : List Int) : Nk s 1 (exprsM ts rec a s) := by
  unfold exprsM; split
  · exact (nk_take ((nk_expr hr _).bind (fun _ s => (hr s).2.2.2.1 _) 1 (by omega))).weak (by omega)
  · exact (nk_fin ts s _).bind (fun _ s => nk_here _ _) 1 (by omega)
theorem nk_list : Nk s 2 (listM ts rec s) := by
  unfold listM
  refine (nk_beg ts s _).bind (fun _ s => ?_) 2 (k2 := 1) (by omega)
  split
  · exact (hr s).2.2.2.1 _
  · exact (nk_expr hr s).bind (fun _ s => (hr s).2.2.2.1 _) 1 (by omega)
theorem nk_call (tx : List UInt8) (pl : Int) : Nk s 1 (callM ts rec tx pl s) := by
  unfold callM
  exact (nk_exp ts s _).bind (fun _ s => (nk_leaf ts s _).bind (fun _ s => (nk_list ts hr s).bind (fun _ s => nk_add _ _ _ _ _ _) 1 (by omega)) 1 (by omega)) 1 (by omega)
theorem nk_block : Nk s 1 (blockM ts rec s) := by
  unfold blockM; simp only
  exact (nk_beg ts s _).bind (fun _ s => (hr s).2.2.2.2.2.1 _ _) 1 (by omega)
theorem nk_stmts (pl : Int) (a : List Int) : Nk s 0 (stmtsM ts rec pl a s) := by
  unfold stmtsM; split
  · exact (nk_fin ts s _).bind (fun _ s => nk_add _ _ _ _ _ _) 0 (by omega)
  · exact (hr s).2.2.2.2.1.bind (fun _ s => (hr s).2.2.2.2.2.1 _ _) 0 (by omega)
theorem nk_rest (t : Tok) : Nk s (-1) (restM ts rec t s) := by
  unfold restM; simp only
  split
  · exact (nk_take ((nk_leaf ts _ _).bind (fun _ s => nk_add _ _ _ _ _ _) (-1) (by omega))).weak (by omega)
  split
  · exact (nk_call ts hr s _ _).weak (by omega)
  split
  · exact (nk_take ((nk_expr hr _).bind (fun _ s => nk_add _ _ _ _ _ _) (-1) (by omega))).weak (by omega)
  · exact (nk_expr hr _).bind (fun _ s => nk_add _ _ _ _ _ _) (-1) (by omega)
theorem nk_named : Nk s 0 (namedM ts rec s) := by
  unfold namedM; simp only
  refine (nk_name ts s).bind (fun _ s => ?_) 0 (k2 := 0) (by omega)
  split
  · exact (nk_idx ts hr s).bind (fun _ s => (nk_exp ts s _).bind (fun _ s => (nk_expr hr s).bind (fun _ s => (nk_add _ _ _ _ _ _).bind (fun _ s => nk_ended ts s _) 0 (by omega)) 0 (by omega)) 0 (by omega)) 0 (by omega)
  · exact (nk_exp ts s _).bind (fun _ s => (nk_rest ts hr s _).bind (fun _ s => nk_ended ts s _) 0 (by omega)) 0 (by omega)
theorem nk_outM : Nk s 0 (outM ts rec s) := by
  unfold outM; simp only
  exact (nk_take ((nk_leaf ts _ _).bind (fun _ s => (nk_expr hr s).bind (fun _ s => (nk_add _ _ _ _ _ _).bind (fun _ s => nk_ended ts s _) 0 (by omega)) 0 (by omega)) 0 (by omega))).weak (by omega)
theorem nk_if : Nk s 0 (ifM ts rec s) := by
  unfold ifM; simp only
  refine (nk_take (k := -1) ((nk_expr hr _).bind (fun _ s => (nk_block ts hr s).bind (fun _ s => ?_) (-1) (k2 := -2) (by omega)) (-1) (by omega))).weak (by omega)
  split
  · exact (nk_take (k := 0) ((nk_block ts hr _).bind (fun _ s => nk_add _ _ _ _ _ _) 0 (by omega))).weak (by omega)
  · exact (nk_add _ _ _ _ _ _).bind (fun _ s => nk_add _ _ _ _ _ _) _ (by omega)
theorem nk_while : Nk s 0 (whileM ts rec s) := by
  unfold whileM; simp only
  exact (nk_take ((nk_expr hr _).bind (fun _ s => (nk_block ts hr s).bind (fun _ s => nk_add _ _ _ _ _ _) 0 (by omega)) 0 (by omega))).weak (by omega)
theorem nk_return : Nk s 0 (returnM ts rec s) := by
  unfold returnM; simp only
  refine (nk_take (k := -1) ?_).weak (by omega)
  split
  · exact nk_add _ _ _ _ _ _
  · exact (nk_expr hr _).bind (fun _ s => nk_add _ _ _ _ _ _) _ (by omega)
theorem nk_throw : Nk s 0 (throwM ts rec s) := by
  unfold throwM; simp only
  exact (nk_take (k := -1) ((nk_expr hr _).bind (fun _ s => nk_add _ _ _ _ _ _) _ (by omega))).weak (by omega)
theorem nk_try : Nk s 0 (tryM ts rec s) := by
  unfold tryM; simp only
  exact (nk_take ((nk_block ts hr _).bind (fun _ s => (nk_exp ts s _).bind (fun _ s => (nk_name ts s).bind (fun _ s => (nk_block ts hr s).bind (fun _ s => nk_add _ _ _ _ _ _) 0 (by omega)) 0 (by omega)) 0 (by omega)) 0 (by omega))).weak (by omega)
theorem nk_stmt : Nk s 0 (stmtM ts rec s) := by
  unfold stmtM; simp only
  split
  · exact nk_named ts hr s
  split
  · exact nk_outM ts hr s
  split
  · exact nk_if ts hr s
  split
  · exact nk_while ts hr s
  split
  · exact (nk_call ts hr s _ _).bind (fun _ s => nk_ended ts s _) 0 (by omega)
  split
  · exact (nk_return ts hr s).bind (fun _ s => nk_ended ts s _) 0 (by omega)
  split
  · exact (nk_throw ts hr s).bind (fun _ s => nk_ended ts s _) 0 (by omega)
  split
  · exact nk_try ts hr s
  · exact nk_no _ _ _ _
theorem nk_vars (k : Nat) (a : List Int) : Nk s 0 (varsM ts rec k a s) := by
  unfold varsM; split
  · exact (nk_take ((nk_typed ts _ _ _).bind (fun _ s => (nk_exp ts s _).bind (fun _ s => (hr s).2.2.2.2.2.2.1 _ _) 0 (by omega)) 0 (by omega))).weak (by omega)
  · exact nk_here _ _
theorem nk_params (a : List Int) : Nk s 1 (paramsM ts rec a s) := by
  unfold paramsM; split
  · exact (nk_take ((nk_param ts _).bind (fun _ s => (hr s).2.2.2.2.2.2.2.1 _) 1 (by omega))).weak (by omega)
  · exact (nk_fin ts s _).bind (fun _ s => nk_here _ _) 1 (by omega)
theorem nk_plist : Nk s 2 (plistM ts rec s) := by
  unfold plistM
  refine (nk_beg ts s _).bind (fun _ s => ?_) 2 (k2 := 1) (by omega)
  split
  · exact (hr s).2.2.2.2.2.2.2.1 _
  · exact (nk_param ts s).bind (fun _ s => (hr s).2.2.2.2.2.2.2.1 _) 1 (by omega)
theorem nk_proc : Nk s 0 (procM ts rec s) := by
  unfold procM; simp only
  refine (nk_exp ts s _).bind (fun _ s => (nk_name ts s).bind (fun _ s => (nk_plist ts hr s).bind (fun _ s => ?_) 0 (k2 := -1) (by omega)) 0 (by omega)) 0 (by omega)
  refine Nk.bind (k := 0) ?_ (fun _ s => (nk_beg ts s _).bind (fun _ s => ((hr s).2.2.2.2.2.2.1 _ _).bind (fun _ s => ((hr s).2.2.2.2.2.1 _ _).bind (fun _ s => nk_add _ _ _ _ _ _) (-1) (by omega)) (-1) (by omega)) (-1) (by omega)) _ (by omega)
  split
  · exact nk_here _ _
  · exact (nk_type ts s).weak (by omega)
theorem nk_procs (a : List Int) : Nk s 0 (procsM ts rec a s) := by
  unfold procsM; split
  · exact (nk_proc ts hr s).bind (fun _ s => (hr s).2.2.2.2.2.2.2.2 _) 0 (by omega)
  · exact nk_here _ _
theorem nk_only : Nk s 0 (onlyM ts rec s) := by
  unfold onlyM
  exact (nk_expr hr s).bind (fun _ s => (nk_end ts s).bind (fun _ s => nk_here _ _) 0 (by omega)) 0 (by omega)
theorem nk_program : Nk s (-1) (programM ts rec s) := by
  unfold programM
  exact ((hr s).2.2.2.2.2.2.1 _ _).bind (fun _ s => ((hr s).2.2.2.2.2.2.2.2 _).bind (fun _ s => (nk_end ts s).bind (fun _ s => nk_add _ _ _ _ _ _) (-1) (by omega)) (-1) (by omega)) (-1) (by omega)
end
theorem nk_out (s : St) (k : Int) : Nk s k .out := fun v s' e => by cases e
theorem run_nk (ts : List Tok) : ∀ f, JobNk (run ts f)
  | 0 => fun _ => ⟨nk_out _ _, fun _ => nk_out _ _, fun _ _ => nk_out _ _, fun _ => nk_out _ _, nk_out _ _, fun _ _ => nk_out _ _, fun _ _ => nk_out _ _, fun _ => nk_out _ _, fun _ => nk_out _ _⟩
  | f + 1 => fun s =>
    have hr := run_nk ts f
    ⟨nk_una ts hr s, nk_bin hr s, nk_loop ts hr s, nk_exprs ts hr s, nk_stmt ts hr s, nk_stmts ts hr s, nk_vars ts hr s, nk_params ts hr s, nk_procs ts hr s⟩
end Go.Proofs.YtdoeinjplgeadaaGreatDoor
