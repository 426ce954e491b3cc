/- PROVED here: the contract of same. No condition but those in each theorem's own head. -/
import Derived.Test.YtahmadelokofbaaDoorK
import Derived.Laws.StructEq
namespace Go.Proofs.YtahmadelokofbaaDoor
open Go Go.RowKit

theorem Toks.cells {w : World} {A : Option Addr} {ts : List Tok} (h : Toks w A ts) {j : Nat} (hj : j < ts.length) : ∃ b off, A = some ⟨b, off, none⟩ ∧ b < w.heap.size ∧
    w.cell? ⟨b, off + j * 4, none⟩ = some (.int .i64 (ts[j].k : Int)) ∧ w.cell? ⟨b, off + j * 4 + 1, none⟩ = some (.int .i64 ts[j].n) ∧ w.cell? ⟨b, off + j * 4 + 2, none⟩ = some (.int .i64 (ts[j].p : Int)) ∧ w.cell? ⟨b, off + j * 4 + 3, none⟩ = some (.string (bs ts[j].s)) := by
  obtain ⟨b, off, e, hb, hc⟩ := h (by omega)
  exact ⟨b, off, e, hb, hc j hj 0 (by decide), hc j hj 1 (by decide), hc j hj 2 (by decide), hc j hj 3 (by decide)⟩
theorem under34 : Tryd.prog.underlying 34 = some (.struct (Tryd.prog.fieldsOf 34)) := by kernel_rfl
theorem stood34 : Tryd.prog.stoodInHeld 34 = false := by kernel_rfl
theorem guard34 : Tryd.prog.eqGuardType Tryd.prog.depth 34 = false := by kernel_rfl
theorem fields34 : (Tryd.prog.fieldsOf 34).toList.map (fun f => (f.name, f.type, f.offset)) = [("Kind", 3, 0), ("N", 3, 1), ("At", 3, 2), ("Text", 9, 3)] := by kernel_rfl
theorem part34_0 (a b c : Int) (s : ByteArray) (w : World) : (part 3 #[.int .i64 a, .int .i64 b, .int .i64 c, .string s] 0).run Tryd.prog w = .ok (.int .i64 a) w := by kernel_rfl
theorem part34_1 (a b c : Int) (s : ByteArray) (w : World) : (part 3 #[.int .i64 a, .int .i64 b, .int .i64 c, .string s] 1).run Tryd.prog w = .ok (.int .i64 b) w := by kernel_rfl
theorem part34_2 (a b c : Int) (s : ByteArray) (w : World) : (part 3 #[.int .i64 a, .int .i64 b, .int .i64 c, .string s] 2).run Tryd.prog w = .ok (.int .i64 c) w := by kernel_rfl
theorem part34_3 (a b c : Int) (s : ByteArray) (w : World) : (part 9 #[.int .i64 a, .int .i64 b, .int .i64 c, .string s] 3).run Tryd.prog w = .ok (.string s) w := by kernel_rfl
def eq4 (a b c : Int) (s : ByteArray) (a' b' c' : Int) (s' : ByteArray) : Bool := a == a' && b == b' && c == c' && s.toList == s'.toList
theorem run_neq34 (a b c : Int) (s : ByteArray) (a' b' c' : Int) (s' : ByteArray) (w : World) :
    (binOp .neq 34 (.agg #[.int .i64 a, .int .i64 b, .int .i64 c, .string s]) (.agg #[.int .i64 a', .int .i64 b', .int .i64 c', .string s'])).run Tryd.prog w = .ok (.bool (!(eq4 a b c s a' b' c' s'))) w := by
  have hf := fields34
  rw [run_neq_struct, run_equalIn_struct w 9999 34 _ _ under34 stood34]
  generalize (Tryd.prog.fieldsOf 34).toList = fs at hf
  have hlen : fs.length = 4 := by have := congrArg List.length hf; simpa using this
  match fs, hlen with
  | [f0, f1, f2, f3], _ =>
    simp only [List.map_cons, List.map_nil, List.cons.injEq, Prod.mk.injEq, and_true] at hf
    obtain ⟨⟨n0, t0, o0⟩, ⟨n1, t1, o1⟩, ⟨n2, t2, o2⟩, ⟨n3, t3, o3⟩⟩ := hf
    have e3 := fun (a b : Int) (w : World) => run_equalIn_int (P := Tryd.prog) w 9998 3 .i64 .i64 a b Tryd.underlying3
    have e9 := fun (a b : ByteArray) (w : World) => run_equalIn_string (P := Tryd.prog) w 9998 9 a b Tryd.underlying9
    unfold eq4
    simp only [Op.eqFields, n0, t0, o0, n1, t1, o1, n2, t2, o2, n3, t3, o3, Sem.run_bind, Sem.run_ite, part34_0, part34_1, part34_2, part34_3, e3, e9, Result.andThen_ok, Sem.run_pure]
    cases a == a' <;> cases b == b' <;> cases c == c' <;> cases s.toList == s'.toList <;> simp
def tokEq (t u : Tok) : Bool := decide (t = u)
theorem eq4_tok (t u : Tok) : eq4 (t.k : Int) t.n (t.p : Int) (bs t.s) (u.k : Int) u.n (u.p : Int) (bs u.s) = tokEq t u := by
  unfold eq4 tokEq
  rw [ByteArray.toList_eq, ByteArray.toList_eq, bs_list, bs_list, Bool.eq_iff_iff]
  simp only [Bool.and_eq_true, beq_iff_eq, decide_eq_true_eq]
  obtain ⟨a, b, c, d⟩ := t
  obtain ⟨a', b', c', d'⟩ := u
  simp only [Tok.mk.injEq]
  constructor
  · rintro ⟨⟨⟨h1, h2⟩, h3⟩, h4⟩
    exact ⟨by omega, h2, by omega, h4⟩
  · rintro ⟨h1, h2, h3, h4⟩
    exact ⟨⟨⟨by omega, h2⟩, by omega⟩, h4⟩
def SameTo (ts us : List Tok) (k : Nat) : Prop := ∀ j, j < k → ts[j]? = us[j]?
theorem SameTo.snoc {ts us : List Tok} {k : Nat} (h : SameTo ts us k) (hk : ts[k]? = us[k]?) : SameTo ts us (k + 1) := fun j hj => by
  by_cases e : j = k
  · subst e; exact hk
  · exact h j (by omega)
theorem SameTo.all {ts us : List Tok} {k : Nat} (h : SameTo ts us k) (h1 : ts.length = k) (h2 : us.length = k) : ts = us := by
  apply List.ext_getElem?
  intro j
  by_cases hj : j < k
  · exact h j hj
  · rw [List.getElem?_eq_none (by omega), List.getElem?_eq_none (by omega)]
def SamePost (b : Bool) (w : World) (e : Ending) (w' : World) : Prop := e = .returned (.bool b) ∧ ∃ n, w' = w.drewN n
def sameB (ts us : List Tok) : Bool := decide (ts = us)
set_option maxRecDepth 100000 in
set_option maxHeartbeats 1000000 in
theorem same_any (A B : Option Addr) (ca cb : Nat) (ts us : List Tok) (w : World) (hA : Toks w A ts) (hB : Toks w B us) (hl : ts.length ≤ 20001) :
    Calls Tryd.prog 13 #[.slice A ts.length ca, .slice B us.length cb] w (SamePost (sameB ts us) w) := by
  by_cases hlen : ts.length = us.length
  · have HLE := Lib.hid hlen
    have hq : ((ts.length : Int) != (us.length : Int)) = false := by rw [hlen]; simp
    have HA := Lib.hid hA
    have HB := Lib.hid hB
    have hg := guard34
    clear hA hB hlen
    go_enter Tryd.func13, Tryd.ntmps13
    go_wp2
    go_loopw [5] (fun i wr => ∃ k m : Nat, k ≤ ts.length ∧ i = .int .i64 (k : Int) ∧ wr = w.drewN m ∧ SameTo ts us k) (fun i _ => ts.length - (intOf i).toNat)
    case atStart => exact ⟨0, 0, Nat.zero_le _, rfl, rfl, fun j hj => by omega⟩
    case round =>
      obtain ⟨k, m, hk, rfl, rfl, hS⟩ := hrel
      by_cases hlt : k < ts.length
      · have hlz : (k : Int) < (ts.length : Int) := by omega
        have hlu : k < us.length := by rw [← HLE.out]; exact hlt
        have hluz : (k : Int) < (us.length : Int) := by omega
        obtain ⟨b, off, rfl, hb, c0, c1, c2, c3⟩ := HA.out.cells hlt
        obtain ⟨b', off', rfl, hb', d0, d1, d2, d3⟩ := HB.out.cells hlu
        have HT := Lib.hid (List.getElem?_eq_getElem hlt)
        have HU := Lib.hid (List.getElem?_eq_getElem hlu)
        generalize ts[k] = t at *
        generalize us[k] = u at *
        have hne := run_neq34 (t.k : Int) t.n (t.p : Int) (bs t.s) (u.k : Int) u.n (u.p : Int) (bs u.s)
        rw [eq4_tok] at hne
        cases hq2 : tokEq t u
        · rw [hq2] at hne
          have HQ := Lib.hid hq2
          clear hq2
          go_wp2
          go_quiet (fail)
          go_wp2
          go_ret
          refine ⟨ret_bool ?_, m + nq, by simp⟩
          symm
          unfold sameB
          rw [decide_eq_false_iff_not]
          intro e
          have h1 := HT.out
          rw [e, HU.out] at h1
          have h2 := HQ.out
          unfold tokEq at h2
          rw [decide_eq_false_iff_not] at h2
          exact h2 (Option.some.inj h1).symm
        · rw [hq2] at hne
          have HQ := Lib.hid (of_decide_eq_true hq2)
          clear hq2
          go_wp2
          go_quiet (fail)
          go_wp2
          go_roundw
          case rel => exact ⟨k + 1, m + nq, by omega, by go_num, rfl, hS.snoc (by rw [HT.out, HU.out, HQ.out])⟩
          case measure => simp [intOf]; omega
      · have hlz : ¬ (k : Int) < (ts.length : Int) := by omega
        go_wp2
        go_ret
        refine ⟨ret_bool ?_, m, rfl⟩
        symm
        exact decide_eq_true (hS.all (by omega) (by have := HLE.out; omega))
  · have hq : ((ts.length : Int) != (us.length : Int)) = true := by rw [bne_iff_ne]; omega
    have HF := Lib.hid (show sameB ts us = false from decide_eq_false (fun e => hlen (by rw [e])))
    clear hlen
    go_enter Tryd.func13, Tryd.ntmps13
    go_wp2
    go_ret
    exact ⟨ret_bool HF.out.symm, 0, rfl⟩
end Go.Proofs.YtahmadelokofbaaDoor
