/- PROVED here: structs compared; a heap that is new; the chapter's examples. No condition but those in each theorem's own head. -/
import Derived.Test.YtpeodpgihmcghaaM
import Derived.Laws.StructEq
namespace Go.Proofs.Ytpeodpgihmcghaa
open Go Go.RowKit Go.Sort

theorem under23 : Try.prog.underlying 23 = some (.struct (Try.prog.fieldsOf 23)) := by kernel_rfl
theorem stood23 : Try.prog.stoodInHeld 23 = false := by kernel_rfl
theorem fields23 : (Try.prog.fieldsOf 23).toList.map (fun f => (f.name, f.type, f.offset)) = [("Kind", 3, 0), ("N", 3, 1)] := by kernel_rfl
theorem under27 : Try.prog.underlying 27 = some (.struct (Try.prog.fieldsOf 27)) := by kernel_rfl
theorem stood27 : Try.prog.stoodInHeld 27 = false := by kernel_rfl
theorem fields27 : (Try.prog.fieldsOf 27).toList.map (fun f => (f.name, f.type, f.offset)) = [("Kind", 3, 0), ("N", 3, 1)] := by kernel_rfl
theorem partV_0 (a b : Int) (w : World) : (part 3 #[.int .i64 a, .int .i64 b] 0).run Try.prog w = .ok (.int .i64 a) w := by kernel_rfl
theorem partV_1 (a b : Int) (w : World) : (part 3 #[.int .i64 a, .int .i64 b] 1).run Try.prog w = .ok (.int .i64 b) w := by kernel_rfl
theorem run_eql23 (a b a' b' : Int) (w : World) : (binOp .eql 23 (.agg #[.int .i64 a, .int .i64 b]) (.agg #[.int .i64 a', .int .i64 b'])).run Try.prog w = .ok (.bool ((a == a' && b == b'))) w := by
  have hf := fields23
  rw [run_eql_struct, run_equalIn_struct w 9999 23 _ _ under23 stood23]
  generalize (Try.prog.fieldsOf 23).toList = fs at hf
  have hlen : fs.length = 2 := by have := congrArg List.length hf; simpa using this
  match fs, hlen with
  | [f0, f1], _ =>
    simp only [List.map_cons, List.map_nil, List.cons.injEq, Prod.mk.injEq, and_true] at hf
    obtain ⟨⟨n0, t0, o0⟩, ⟨n1, t1, o1⟩⟩ := hf
    have e3 := fun (a b : Int) (w : World) => run_equalIn_int (P := Try.prog) w 9998 3 .i64 .i64 a b Try.underlying3
    simp only [Op.eqFields, n0, t0, o0, n1, t1, o1, Sem.run_bind, Sem.run_ite, partV_0, partV_1, e3, Result.andThen_ok, Sem.run_pure]
    cases a == a' <;> cases b == b' <;> simp
theorem run_neq23 (a b a' b' : Int) (w : World) : (binOp .neq 23 (.agg #[.int .i64 a, .int .i64 b]) (.agg #[.int .i64 a', .int .i64 b'])).run Try.prog w = .ok (.bool (!(a == a' && b == b'))) w := by
  have hf := fields23
  rw [run_neq_struct, run_equalIn_struct w 9999 23 _ _ under23 stood23]
  generalize (Try.prog.fieldsOf 23).toList = fs at hf
  have hlen : fs.length = 2 := by have := congrArg List.length hf; simpa using this
  match fs, hlen with
  | [f0, f1], _ =>
    simp only [List.map_cons, List.map_nil, List.cons.injEq, Prod.mk.injEq, and_true] at hf
    obtain ⟨⟨n0, t0, o0⟩, ⟨n1, t1, o1⟩⟩ := hf
    have e3 := fun (a b : Int) (w : World) => run_equalIn_int (P := Try.prog) w 9998 3 .i64 .i64 a b Try.underlying3
    simp only [Op.eqFields, n0, t0, o0, n1, t1, o1, Sem.run_bind, Sem.run_ite, partV_0, partV_1, e3, Result.andThen_ok, Sem.run_pure]
    cases a == a' <;> cases b == b' <;> simp
theorem run_eql27 (a b a' b' : Int) (w : World) : (binOp .eql 27 (.agg #[.int .i64 a, .int .i64 b]) (.agg #[.int .i64 a', .int .i64 b'])).run Try.prog w = .ok (.bool ((a == a' && b == b'))) w := by
  have hf := fields27
  rw [run_eql_struct, run_equalIn_struct w 9999 27 _ _ under27 stood27]
  generalize (Try.prog.fieldsOf 27).toList = fs at hf
  have hlen : fs.length = 2 := by have := congrArg List.length hf; simpa using this
  match fs, hlen with
  | [f0, f1], _ =>
    simp only [List.map_cons, List.map_nil, List.cons.injEq, Prod.mk.injEq, and_true] at hf
    obtain ⟨⟨n0, t0, o0⟩, ⟨n1, t1, o1⟩⟩ := hf
    have e3 := fun (a b : Int) (w : World) => run_equalIn_int (P := Try.prog) w 9998 3 .i64 .i64 a b Try.underlying3
    simp only [Op.eqFields, n0, t0, o0, n1, t1, o1, Sem.run_bind, Sem.run_ite, partV_0, partV_1, e3, Result.andThen_ok, Sem.run_pure]
    cases a == a' <;> cases b == b' <;> simp
theorem run_neq27 (a b a' b' : Int) (w : World) : (binOp .neq 27 (.agg #[.int .i64 a, .int .i64 b]) (.agg #[.int .i64 a', .int .i64 b'])).run Try.prog w = .ok (.bool (!(a == a' && b == b'))) w := by
  have hf := fields27
  rw [run_neq_struct, run_equalIn_struct w 9999 27 _ _ under27 stood27]
  generalize (Try.prog.fieldsOf 27).toList = fs at hf
  have hlen : fs.length = 2 := by have := congrArg List.length hf; simpa using this
  match fs, hlen with
  | [f0, f1], _ =>
    simp only [List.map_cons, List.map_nil, List.cons.injEq, Prod.mk.injEq, and_true] at hf
    obtain ⟨⟨n0, t0, o0⟩, ⟨n1, t1, o1⟩⟩ := hf
    have e3 := fun (a b : Int) (w : World) => run_equalIn_int (P := Try.prog) w 9998 3 .i64 .i64 a b Try.underlying3
    simp only [Op.eqFields, n0, t0, o0, n1, t1, o1, Sem.run_bind, Sem.run_ite, partV_0, partV_1, e3, Result.andThen_ok, Sem.run_pure]
    cases a == a' <;> cases b == b' <;> simp
theorem Hp.new46 (w : World) (base : Nat) (hb : base ≤ w.heap.size) : Hp 46 C46 (w.alloc (.cells #[.slice none 0 0, .int .i64 0] 46)) base w.heap.size (.slice none 0 0) [] [] :=
  ⟨Bx.new w 46 [.slice none 0 0, .int .i64 0], ⟨rfl, World.ownsRow_nil _ _ _ _, fun i hi => by simp at hi, fun i j hi => by simp at hi⟩, by simp [cellsL], hb⟩
theorem Hp.new49 (w : World) (base : Nat) (hb : base ≤ w.heap.size) : Hp 49 C49 (w.alloc (.cells #[.slice none 0 0] 49)) base w.heap.size (.slice none 0 0) [] [] :=
  ⟨Bx.new w 49 [.slice none 0 0], ⟨rfl, World.ownsRow_nil _ _ _ _, fun i hi => by simp at hi, fun i j hi => by simp at hi⟩, by simp [cellsL], hb⟩
/-- a box of another type is in no footprint -/
theorem Hp.not_fp {T : TypeId} {C : List (List Int) → List Value} {w : World} {base g : Nat} {v : Value} {vs : List Value} {L : List (List Int)} (h : Hp T C w base g v vs L) {b : Nat} {t : TypeId} {l : List Value} (hb : Bx w b t l) (h1 : t ≠ T) (h2 : t ≠ 78) (h3 : t ≠ 3) : ¬ Fp g v vs b := by
  rintro (rfl | e | ⟨x, hx, e⟩)
  · have h5 := h.bx
    unfold Bx at h5 hb
    rw [h5] at hb; injection hb with hb; injection hb with _ hb; exact h1 hb.symm
  · exact own_bx_ne h.ar.own hb (fun q => h2 q.symm) e
  · obtain ⟨i, hi, rfl⟩ := List.mem_iff_getElem.1 hx
    exact own_bx_ne (h.ar.row i hi (by rw [← h.ar.len]; exact hi)) hb (fun q => h3 q.symm) e
theorem Bx.ne_ {w : World} {b b' : Nat} {t t' : TypeId} {l l' : List Value} (h : Bx w b t l) (h' : Bx w b' t' l') (hne : t ≠ t') : b ≠ b' := by
  rintro rfl
  unfold Bx at h h'
  rw [h] at h'; injection h' with h'; injection h' with _ h'; exact hne h'
end Go.Proofs.Ytpeodpgihmcghaa
