/- PROVED here: plain facts on the nodes of trees one behind the other. -/
import Derived.Test.YtcnmkmdedeiffaaY
import Derived.Test.YtcnmkmdedeiffaaI
import Derived.Test.YtcnmkmdedeiffaaR
namespace Go.Proofs.Ytcnmkmdedeiffaa
open Go Go.RowKit

theorem wrap_idem (x : Int) : wrap64 (wrap64 x) = wrap64 x := by unfold wrap64; omega
theorem ovA_len {m : Nat} : ∀ (ts : List Tr) (acc : List Nd), (∀ t ∈ ts, t.1.length ≤ m) → (ts.foldl (fun acc t => acc ++ t.1.map (mvN (acc.length : Int))) acc).length ≤ acc.length + ts.length * m
  | [], acc, _ => by simp
  | t :: ts, acc, h => by
    rw [List.foldl_cons]
    refine Nat.le_trans (ovA_len ts _ (fun x hx => h x (List.mem_cons_of_mem _ hx))) ?_
    have := h t (by simp)
    rw [List.length_append, List.length_map, List.length_cons, Nat.add_mul]
    omega
theorem ovA_le {m : Nat} {ts : List Tr} (h : ∀ t ∈ ts, t.1.length ≤ m) : (ovA ts).length ≤ ts.length * m := by
  have := ovA_len ts [] h
  simpa [ovA] using this
theorem ovA_mem : ∀ (ts : List Tr) (acc : List Nd) (x : Nd), x ∈ ts.foldl (fun acc t => acc ++ t.1.map (mvN (acc.length : Int))) acc → x ∈ acc ∨ ∃ t ∈ ts, ∃ y ∈ t.1, ∃ d, x = mvN d y
  | [], acc, x, h => .inl h
  | t :: ts, acc, x, h => by
    rw [List.foldl_cons] at h
    rcases ovA_mem ts _ x h with h | ⟨t', h1, h2⟩
    · rcases List.mem_append.1 h with h | h
      · exact .inl h
      · obtain ⟨y, hy, e⟩ := List.mem_map.1 h
        exact .inr ⟨t, by simp, y, hy, _, e.symm⟩
    · exact .inr ⟨t', by simp [h1], h2⟩
theorem mv_ks (d : Int) (y : Nd) : (mvN d y).ks.length = y.ks.length := by show (List.map _ _).length = _; rw [List.length_map]
theorem ovL_ks {kd n pl : Int} {tx : ByteArray} {ts : List Tr} {m : Nat} (h : ∀ t ∈ ts, ∀ x ∈ t.1, x.ks.length ≤ m) (hl : ts.length ≤ m) : ∀ x ∈ ovL kd n pl tx ts, x.ks.length ≤ m := fun x hx => by
  rcases List.mem_append.1 hx with hx | hx
  · rcases ovA_mem ts [] x hx with hx | ⟨t, h1, y, h2, d, rfl⟩
    · cases hx
    · rw [mv_ks]; exact h t h1 y h2
  · obtain rfl : x = _ := List.mem_singleton.1 hx
    show (rts ts).length ≤ m
    unfold rts; rw [List.length_map, List.length_range]; exact hl
theorem ovL_wok (kd n pl : Int) (tx : ByteArray) (ts : List Tr) : Wok (ovL kd n pl tx ts) := fun x hx k hk => by
  rcases List.mem_append.1 hx with hx | hx
  · rcases ovA_mem ts [] x hx with hx | ⟨t, h1, y, h2, d, rfl⟩
    · cases hx
    · obtain ⟨z, _, rfl⟩ := List.mem_map.1 hk
      exact wrap_idem _
  · obtain rfl : x = _ := List.mem_singleton.1 hx
    obtain ⟨j, _, rfl⟩ := List.mem_map.1 hk
    exact wrap_idem _
theorem brN_ks {l : List Nd} {m : Nat} (h : ∀ x ∈ l, x.ks.length ≤ m) : ∀ x ∈ l.map brN, x.ks.length ≤ m := fun x hx => by
  obtain ⟨y, hy, rfl⟩ := List.mem_map.1 hx
  exact h y hy
section
variable {ops : Array Oper} {Q : Exit → Act → World → Prop} {S : World → Prop} {fuel : Nat} {listed : Array Bool} {a : Act} {w : World} {o : Oper}
theorem y_assign {x : Operand} {v : Value} (ho : o.op = .assign x) (hx : a.eval x = v) : ∀ w, S w → (execOp a.eval o).run Try.prog w = .ok (.value v) w := fun w _ => by unfold execOp; simp only [ho, hx, Sem.run_pure]
theorem y_pickT {c x y : Operand} {v : Value} (ho : o.op = .pick c x y) (hc : a.eval c = .bool true) (hx : a.eval x = v) : ∀ w, S w → (execOp a.eval o).run Try.prog w = .ok (.value v) w := fun w _ => by
  unfold execOp; simp [ho, hc, hx, asBool]
theorem y_not {x : Operand} {b : Bool} (ho : o.op = .unOp .not 4 x) (hx : a.eval x = .bool (!b)) : ∀ w, S w → (execOp a.eval o).run Try.prog w = .ok (.value (.bool b)) w := fun w _ => by
  unfold execOp; simp only [ho, hx]; simp [go_sem]
end
theorem own10 : Own 10 := ⟨_, Try.func10, by kernel_rfl, by kernel_rfl⟩
theorem own12 : Own 12 := ⟨_, Try.func12, by kernel_rfl, by kernel_rfl⟩
theorem own13 : Own 13 := ⟨_, Try.func13, by kernel_rfl, by kernel_rfl⟩
theorem own14 : Own 14 := ⟨_, Try.func14, by kernel_rfl, by kernel_rfl⟩
end Go.Proofs.Ytcnmkmdedeiffaa
