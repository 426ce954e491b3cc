/- PROVED here: where tokens begin changes nothing of what the parser answers, but places. No condition but those in each theorem's own head. -/
import Derived.Test.YtdoeinjplgeadaaGreatDoorPc
namespace Go.Proofs.YtdoeinjplgeadaaGreatDoor
/-- places put to nought -/
def erT (t : Tok) : Tok := { t with p := 0 }
def erN (x : Nd) : Nd := { x with pl := 0 }
def erS (s : St) : St := { s with nd := s.nd.map erN }
def erR : Rs → Rs
  | .out => .out
  | .no _ e => .no 0 e
  | .ok v s => .ok v (erS s)
def erJ : Job → Job
  | .stmts _ a => .stmts 0 a
  | j => j
theorem er_bind {r r' : Rs} {k k' : List Int → St → Rs} (h0 : r' = erR r) (h : ∀ v s, k' v (erS s) = erR (k v s)) : r'.bind k' = erR (r.bind k) := by
  subst h0
  cases r with
  | out => rfl
  | no p e => rfl
  | ok v s => exact h v s
theorem er_ite {c c' : Prop} [Decidable c] [Decidable c'] {a b a' b' : Rs} (hc : c' ↔ c) (h1 : a' = erR a) (h2 : b' = erR b) : (if c' then a' else b') = erR (if c then a else b) := by
  by_cases q : c
  · rw [if_pos q, if_pos (hc.2 q)]; exact h1
  · rw [if_neg q, if_neg (fun r => q (hc.1 r))]; exact h2
section
variable (ts : List Tok)
theorem er_tkn (s : St) : tkn (ts.map erT) (erS s) = erT (tkn ts s) := by
  unfold tkn
  rw [List.getD_eq_getElem?_getD, List.getD_eq_getElem?_getD, List.getElem?_map]
  show ((ts[s.nx]?).map erT).getD _ = _
  cases ts[s.nx]? <;> rfl
theorem er_k (s : St) : (tkn (ts.map erT) (erS s)).k = (tkn ts s).k := by rw [er_tkn]; rfl
theorem er_n (s : St) : (tkn (ts.map erT) (erS s)).n = (tkn ts s).n := by rw [er_tkn]; rfl
theorem er_s (s : St) : (tkn (ts.map erT) (erS s)).s = (tkn ts s).s := by rw [er_tkn]; rfl
theorem er_p (s : St) : (tkn (ts.map erT) (erS s)).p = 0 := by rw [er_tkn]; rfl
theorem er_sees (x : List UInt8) (s : St) : sees (ts.map erT) x (erS s) = sees ts x s := by unfold sees; rw [er_s]
theorem er_take (s : St) : takeS (erS s) = erS (takeS s) := rfl
theorem er_seesI (x : List UInt8) (s : St) : sees (ts.map erT) x (erS s) = true ↔ sees ts x s = true := by rw [er_sees]
theorem er_add (kd n pl : Int) (tx : List UInt8) (ks : List Int) (s : St) : addM kd n 0 tx ks (erS s) = erR (addM kd n pl tx ks s) := by
  unfold addM
  show Rs.ok [((s.nd.map erN).length : Int)] _ = Rs.ok _ _
  rw [List.length_map]
  show Rs.ok _ _ = Rs.ok _ (erS _)
  unfold erS
  simp only [List.map_append, List.map_cons, List.map_nil]
  rfl
theorem er_no (s : St) (e : Nat) : Rs.no (tkn (ts.map erT) (erS s)).p e = erR (.no (tkn ts s).p e) := by rw [er_p]; rfl
theorem er_exp (x : List UInt8) (s : St) : expM (ts.map erT) x (erS s) = erR (expM ts x s) := by
  unfold expM; exact er_ite (er_seesI ts x s) rfl (er_no ts s 2)
theorem er_name (s : St) : nameM (ts.map erT) (erS s) = erR (nameM ts s) := by
  unfold nameM; exact er_ite (by rw [er_k]) rfl (er_no ts s 2)
theorem er_end (s : St) : endM (ts.map erT) (erS s) = erR (endM ts s) := by
  unfold endM; exact er_ite (by rw [er_k]) rfl (er_no ts s 2)
theorem er_beg (x : List UInt8) (s : St) : begM (ts.map erT) x (erS s) = erR (begM ts x s) := by
  unfold begM
  exact er_ite (by rw [er_sees]; rfl) (er_no ts s 6) (er_bind (er_exp ts x s) fun _ _ => rfl)
theorem er_fin (x : List UInt8) (s : St) : finM (ts.map erT) x (erS s) = erR (finM ts x s) := by
  unfold finM
  exact er_bind (er_exp ts x s) fun _ _ => rfl
theorem er_type (s : St) : typeM (ts.map erT) (erS s) = erR (typeM ts s) := by
  unfold typeM
  simp only [er_s]
  exact er_ite Iff.rfl (er_no ts s 2) rfl
end
section
variable {ts : List Tok} {rec rec' : Job → St → Rs} (hr : ∀ j s, rec' (erJ j) (erS s) = erR (rec j s))
theorem er_leaf (kd : Nat) (s : St) : leafM (ts.map erT) kd (erS s) = erR (leafM ts kd s) := by
  unfold leafM
  simp only [er_s, er_p]
  exact er_bind (er_name ts s) fun _ s => er_add ..
theorem er_mark (kd : Nat) (s : St) : markM (ts.map erT) kd (erS s) = erR (markM ts kd s) := by
  unfold markM
  simp only [er_take, er_s, er_p]
  exact er_bind (er_name ts _) fun _ s => er_add ..
theorem er_typed (kd : Nat) (pl : Int) (s : St) : typedM (ts.map erT) kd 0 (erS s) = erR (typedM ts kd pl s) := by
  unfold typedM
  simp only [er_s]
  exact er_bind (er_name ts s) fun _ s => er_bind (er_type ts s) fun n s => er_add ..
theorem er_param (s : St) : paramM (ts.map erT) (erS s) = erR (paramM ts s) := by
  unfold paramM
  rw [er_p]
  exact er_typed ..
theorem er_ended (v : List Int) (s : St) : endedM (ts.map erT) v (erS s) = erR (endedM ts v s) := by
  unfold endedM
  exact er_bind (er_exp ts _ s) fun _ _ => rfl
include hr
theorem er_expr (s : St) : exprM rec' (erS s) = erR (exprM rec s) := hr (.bin 1) s
theorem er_idx (s : St) : idxM (ts.map erT) rec' (erS s) = erR (idxM ts rec s) := by
  unfold idxM
  exact er_bind (er_beg ts _ s) fun _ s => er_bind (er_expr hr s) fun v s => er_bind (er_fin ts _ s) fun _ s => rfl
theorem er_vari (s : St) : variM (ts.map erT) rec' (erS s) = erR (variM ts rec s) := by
  unfold variM
  simp only [er_s, er_p]
  exact er_bind (er_name ts s) fun _ s => er_ite (er_seesI ..) (er_bind (er_idx hr s) fun v s => er_add ..) (er_add ..)
theorem er_sign (s : St) : signM (ts.map erT) rec' (erS s) = erR (signM ts rec s) := by
  unfold signM
  simp only [er_s, er_p]
  exact er_bind (er_beg ts _ s) fun _ s => er_bind (hr .una s) fun v s => er_add (s := { s with op := s.op - 1 }) ..
theorem er_una (s : St) : unaM (ts.map erT) rec' (erS s) = erR (unaM ts rec s) := by
  unfold unaM
  simp only [er_k, er_n, er_s, er_p, er_take]
  refine er_ite Iff.rfl (er_vari hr s) ?_
  refine er_ite Iff.rfl (er_add ..) ?_
  refine er_ite Iff.rfl (er_sign hr s) ?_
  refine er_ite Iff.rfl (er_add ..) ?_
  refine er_ite Iff.rfl (er_mark 24 s) ?_
  refine er_ite Iff.rfl (er_mark 25 s) ?_
  refine er_ite Iff.rfl (er_bind (er_beg ts _ s) fun _ s => er_bind (er_expr hr s) fun v s => er_bind (er_fin ts _ s) fun _ s => rfl) rfl
theorem er_binM (r : Nat) (s : St) : binM rec' r (erS s) = erR (binM rec r s) := by
  unfold binM
  exact er_ite Iff.rfl (hr .una s) (er_bind (hr (.bin (r + 1)) s) fun v s => hr (.loop r v) s)
theorem er_loop (r : Nat) (l : List Int) (s : St) : loopM (ts.map erT) rec' r l (erS s) = erR (loopM ts rec r l s) := by
  unfold loopM
  simp only [er_s, er_p, er_take]
  exact er_ite Iff.rfl (er_bind (hr (.bin (r + 1)) _) fun v s => er_bind (er_add ..) fun v s => hr (.loop r v) s) rfl
theorem er_exprs (a : List Int) (s : St) : exprsM (ts.map erT) rec' a (erS s) = erR (exprsM ts rec a s) := by
  unfold exprsM
  exact er_ite (er_seesI ..) (er_bind (er_expr hr (takeS s)) fun v s => hr (.exprs (a ++ v)) s) (er_bind (er_fin ts _ s) fun _ s => rfl)
theorem er_list (s : St) : listM (ts.map erT) rec' (erS s) = erR (listM ts rec s) := by
  unfold listM
  exact er_bind (er_beg ts _ s) fun _ s => er_ite (er_seesI ..) (hr (.exprs []) s) (er_bind (er_expr hr s) fun v s => hr (.exprs v) s)
theorem er_call (tx : List UInt8) (pl : Int) (s : St) : callM (ts.map erT) rec' tx 0 (erS s) = erR (callM ts rec tx pl s) := by
  unfold callM
  exact er_bind (er_exp ts _ s) fun _ s => er_bind (er_leaf 19 s) fun v s => er_bind (er_list hr s) fun u s => er_add ..
theorem er_block (s : St) : blockM (ts.map erT) rec' (erS s) = erR (blockM ts rec s) := by
  unfold blockM
  simp only [er_p]
  exact er_bind (er_beg ts _ s) fun _ s' => hr (.stmts (tkn ts s).p []) s'
theorem er_stmts (pl : Int) (a : List Int) (s : St) : stmtsM (ts.map erT) rec' 0 a (erS s) = erR (stmtsM ts rec pl a s) := by
  unfold stmtsM
  exact er_ite (er_seesI ..) (er_bind (er_fin ts _ s) fun _ s => er_add ..) (er_bind (hr .stmt s) fun v s => hr (.stmts pl (a ++ v)) s)
theorem er_rest (t : Tok) (s : St) : restM (ts.map erT) rec' (erT t) (erS s) = erR (restM ts rec t s) := by
  unfold restM
  simp only [er_s, er_take, erT]
  refine er_ite Iff.rfl (er_bind (er_leaf 18 _) fun v s => er_add ..) ?_
  refine er_ite Iff.rfl (er_call hr t.s t.p s) ?_
  exact er_ite Iff.rfl (er_bind (er_expr hr _) fun v s => er_add ..) (er_bind (er_expr hr s) fun v s => er_add ..)
theorem er_named (s : St) : namedM (ts.map erT) rec' (erS s) = erR (namedM ts rec s) := by
  unfold namedM
  simp only [er_s, er_p]
  refine er_bind (er_name ts s) fun _ s1 => ?_
  refine er_ite (er_seesI ..) (er_bind (er_idx hr s1) fun i s => er_bind (er_exp ts _ s) fun _ s => er_bind (er_expr hr s) fun v s => er_bind (er_add ..) fun v s => er_ended v s) ?_
  refine er_bind (er_exp ts _ s1) fun _ s2 => ?_
  rw [er_tkn]
  exact er_bind (er_rest hr _ s2) fun v s => er_ended v s
theorem er_out (s : St) : outM (ts.map erT) rec' (erS s) = erR (outM ts rec s) := by
  unfold outM
  simp only [er_p, er_take]
  exact er_bind (er_leaf 18 _) fun c s => er_bind (er_expr hr s) fun v s => er_bind (er_add ..) fun v s => er_ended v s
theorem er_if (s : St) : ifM (ts.map erT) rec' (erS s) = erR (ifM ts rec s) := by
  unfold ifM
  simp only [er_p, er_take]
  exact er_bind (er_expr hr _) fun c s => er_bind (er_block hr s) fun a s => er_ite (er_seesI ..) (er_bind (er_block hr (takeS s)) fun b s => er_add ..) (er_bind (er_add ..) fun b s => er_add ..)
theorem er_while (s : St) : whileM (ts.map erT) rec' (erS s) = erR (whileM ts rec s) := by
  unfold whileM
  simp only [er_p, er_take]
  exact er_bind (er_expr hr _) fun c s => er_bind (er_block hr s) fun a s => er_add ..
theorem er_return (s : St) : returnM (ts.map erT) rec' (erS s) = erR (returnM ts rec s) := by
  unfold returnM
  simp only [er_p, er_take, er_sees]
  exact er_ite Iff.rfl (er_add ..) (er_bind (er_expr hr _) fun v s => er_add ..)
theorem er_throw (s : St) : throwM (ts.map erT) rec' (erS s) = erR (throwM ts rec s) := by
  unfold throwM
  simp only [er_p, er_take]
  exact er_bind (er_expr hr _) fun v s => er_add ..
theorem er_try (s : St) : tryM (ts.map erT) rec' (erS s) = erR (tryM ts rec s) := by
  unfold tryM
  simp only [er_p, er_take]
  refine er_bind (er_block hr _) fun a s => er_bind (er_exp ts _ s) fun _ s => ?_
  simp only [er_s]
  exact er_bind (er_name ts s) fun _ s => er_bind (er_block hr s) fun b s => er_add ..
theorem er_stmt (s : St) : stmtM (ts.map erT) rec' (erS s) = erR (stmtM ts rec s) := by
  unfold stmtM
  simp only [er_k, er_s, er_p]
  refine er_ite Iff.rfl (er_named hr s) ?_
  refine er_ite Iff.rfl (er_out hr s) ?_
  refine er_ite Iff.rfl (er_if hr s) ?_
  refine er_ite Iff.rfl (er_while hr s) ?_
  refine er_ite Iff.rfl (er_bind (er_call hr [] _ s) fun v s => er_ended v s) ?_
  refine er_ite Iff.rfl (er_bind (er_return hr s) fun v s => er_ended v s) ?_
  refine er_ite Iff.rfl (er_bind (er_throw hr s) fun v s => er_ended v s) ?_
  exact er_ite Iff.rfl (er_try hr s) rfl
theorem er_vars (kd : Nat) (a : List Int) (s : St) : varsM (ts.map erT) rec' kd a (erS s) = erR (varsM ts rec kd a s) := by
  unfold varsM
  rw [er_p]
  exact er_ite (er_seesI ..) (er_bind (er_typed kd _ (takeS s)) fun v s => er_bind (er_exp ts _ s) fun _ s => hr (.vars kd (a ++ v)) s) rfl
theorem er_params (a : List Int) (s : St) : paramsM (ts.map erT) rec' a (erS s) = erR (paramsM ts rec a s) := by
  unfold paramsM
  exact er_ite (er_seesI ..) (er_bind (er_param (takeS s)) fun v s => hr (.params (a ++ v)) s) (er_bind (er_fin ts _ s) fun _ s => rfl)
theorem er_plist (s : St) : plistM (ts.map erT) rec' (erS s) = erR (plistM ts rec s) := by
  unfold plistM
  exact er_bind (er_beg ts _ s) fun _ s => er_ite (er_seesI ..) (hr (.params []) s) (er_bind (er_param s) fun v s => hr (.params v) s)
theorem er_proc (s : St) : procM (ts.map erT) rec' (erS s) = erR (procM ts rec s) := by
  unfold procM
  simp only [er_p]
  refine er_bind (er_exp ts _ s) fun _ s1 => ?_
  simp only [er_s]
  refine er_bind (er_name ts s1) fun _ s2 => er_bind (er_plist hr s2) fun ps s3 => ?_
  refine er_bind (er_ite (er_seesI ..) rfl (er_type ts s3)) fun n s4 => ?_
  simp only [er_p]
  exact er_bind (er_beg ts _ s4) fun _ s5 => er_bind (hr (.vars 5 []) s5) fun vs s6 => er_bind (hr (.stmts (tkn ts s4).p []) s6) fun bl s7 => er_add ..
theorem er_procs (a : List Int) (s : St) : procsM (ts.map erT) rec' a (erS s) = erR (procsM ts rec a s) := by
  unfold procsM
  exact er_ite (er_seesI ..) (er_bind (er_proc hr s) fun v s => hr (.procs (a ++ v)) s) rfl
theorem er_program (s : St) : programM (ts.map erT) rec' (erS s) = erR (programM ts rec s) := by
  unfold programM
  exact er_bind (hr (.vars 2 []) s) fun vs s => er_bind (hr (.procs vs) s) fun ps s => er_bind (er_end ts s) fun _ s => er_add ..
theorem er_only (s : St) : onlyM (ts.map erT) rec' (erS s) = erR (onlyM ts rec s) := by
  unfold onlyM
  exact er_bind (er_expr hr s) fun v s => er_bind (er_end ts s) fun _ s => rfl
end
theorem er_run (ts : List Tok) : ∀ (f : Nat) (j : Job) (s : St), run (ts.map erT) f (erJ j) (erS s) = erR (run ts f j s)
  | 0, _, _ => rfl
  | f + 1, j, s => by
    have ih := er_run ts f
    cases j with
    | una => exact er_una ih s
    | bin r => exact er_binM ih r s
    | loop r l => exact er_loop ih r l s
    | exprs a => exact er_exprs ih a s
    | stmt => exact er_stmt ih s
    | stmts p a => exact er_stmts ih p a s
    | vars k a => exact er_vars ih k a s
    | params a => exact er_params ih a s
    | procs a => exact er_procs ih a s
theorem er_prog (ts : List Tok) : progR (ts.map erT) = erR (progR ts) := by
  unfold progR steps
  rw [List.length_map]
  exact er_program (er_run ts _) st0
theorem er_exprR (ts : List Tok) : exprR (ts.map erT) = erR (exprR ts) := by
  unfold exprR steps
  rw [List.length_map]
  exact er_only (er_run ts _) st0
/-- tokens that differ in their places alone: the same answer, but for places -/
theorem prog_er {ts us : List Tok} (h : ts.map erT = us.map erT) : erR (progR ts) = erR (progR us) := by rw [← er_prog, ← er_prog, h]
theorem expr_er {ts us : List Tok} (h : ts.map erT = us.map erT) : erR (exprR ts) = erR (exprR us) := by rw [← er_exprR, ← er_exprR, h]
end Go.Proofs.YtdoeinjplgeadaaGreatDoor
