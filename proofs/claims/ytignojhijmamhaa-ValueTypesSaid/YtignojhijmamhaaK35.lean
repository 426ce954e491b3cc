/- PROVED here: parts VaL of the claim. No condition but those in each theorem's own head. -/
import Derived.Test.YtignojhijmamhaaK34
import Derived.Lib.SmallJoins
namespace Go.Proofs.Ytignojhijmamhaa.Va
open Go Go.RowKit Go.Sort
theorem ap : (∀ (a : Act) (t : Tmp) (v : Value), a.put (some t) v = { a with tmps := a.tmps.setIfInBounds t v }) ∧ (∀ {α : Type} (l : List α) (i : Nat) (v : α), l.toArray.setIfInBounds i v = (l.set i v).toArray) ∧ (∀ {α : Type} (x : α) (l : List α) (v : α), (x :: l).set 0 v = v :: l) ∧ ∀ {α : Type} (x : α) (l : List α) (i : Nat) (v : α), (x :: l).set (i + 1) v = x :: l.set i v :=
  ⟨fun _ _ _ => rfl, fun l i v => List.setIfInBounds_toArray l i v, fun _ _ _ => rfl, fun _ _ _ _ => rfl⟩
theorem info3 : (Try.prog.info? 3).map (fun i => (i.zero, i.size, i.bytes)) = some (some (.int .i64 0), 1, 8) := by kernel_rfl
theorem info78 : (Try.prog.info? 25).map (fun i => (i.zero, i.size, i.bytes)) = some (some (.slice none 0 0), 1, 24) := by kernel_rfl
def noughts (n : Nat) : List Int := List.replicate n 0
theorem noughts_len (n : Nat) : (noughts n).length = n := List.length_replicate
theorem made0 (n : Nat) : madeCells #[.int .i64 0] n = (ints (noughts n)).toArray := by
  apply Array.toList_inj.1
  rw [toList_madeCells_one]
  simp [ints, noughts]
theorem make78 (n : Nat) (hn : n ≤ 4000000000) (w : World) : (Instr.makeSlice 25 (.int .i64 (n : Int)) (.int .i64 (n : Int))).run Try.prog w = .ok (.slice (some ⟨w.heap.size, 0, none⟩) n n) (w.alloc (.cells (ints (noughts n)).toArray 3)) := by
  have h := info3
  cases hq : Try.prog.info? 3 with
  | none => rw [hq] at h; cases h
  | some i =>
    rw [hq] at h
    simp only [Option.map_some, Option.some.injEq, Prod.mk.injEq] at h
    obtain ⟨h1, h2, h3⟩ := h
    have := run_make (P := Try.prog) w 25 3 i (.int .i64 0) Try.underlying25 hq h1 .i64 .i64 (n : Int) (n : Int) (by omega) (Int.le_refl _) (by rw [h3]; omega) (by omega)
    rw [this, h2]
    simp only [Int.toNat_natCast, Nat.mul_one]
    rw [show (Value.int .i64 0).cells = #[.int .i64 0] from rfl, made0]
section
variable {ops : Array Oper} {Q : Exit → Act → World → Prop} {S : World → Prop} {fuel : Nat} {listed : Array Bool} {a : Act} {w : World} {o : Oper} {K : Act → World → Prop}
theorem hpu (i : Nat) (v : Value) {o : Oper} {t : Tmp} (hc : (Region.noSelect ops && (Region.free .any ops listed i && (Region.ready .any ops listed).contains i)) = true) (hi : ops[i]? = some o) (hd : o.dst = some t)
    (hQ : ∀ c a w, Q (.panic c) (a.put (some t) v) w → Q (.panic c) a w) (hw : Region.wanted o (yielded ops a.tmps) = true) (hy : ∀ w, S w → (execOp a.eval o).run Try.prog w = .ok (.value v) w) (hS : S w)
    (h : wpAnyH Try.prog .any ops Q S fuel (listed.setIfInBounds i true) (a.put (some t) v) w) : wpAnyH Try.prog .any ops Q S (fuel + 1) listed a w := by
  simp only [Bool.and_eq_true] at hc
  rw [← hd] at hQ h
  exact wpAnyH_take hi hc.1 hc.2.1 hc.2.2 hQ (.inl ⟨hw, hy⟩) hS h
theorem h_one (i : Nat) (o : Oper) (hi : ops[i]? = some o) (hr : Region.ready .any ops listed = [i]) (hw : Region.wanted o (yielded ops a.tmps) = true)
    (h : o.wp Try.prog a w (fun a' w' => S w' ∧ wpAnyH Try.prog .any ops Q S fuel (listed.setIfInBounds i true) a' w') Q) : wpAnyH Try.prog .any ops Q S (fuel + 1) listed a w :=
  wpAnyH_all hr (by simp) fun j hj => by
    obtain rfl : j = i := by simpa using hj
    unfold wpOp
    simp only [hi, hw, if_true]
    exact .inl h
theorem h_two (i j : Nat) (oi oj : Oper) (hi : ops[i]? = some oi) (hj : ops[j]? = some oj) (hr : Region.ready .any ops listed = [i, j]) (hwi : Region.wanted oi (yielded ops a.tmps) = true) (hwj : Region.wanted oj (yielded ops a.tmps) = true)
    (h1 : oi.wp Try.prog a w (fun a' w' => S w' ∧ wpAnyH Try.prog .any ops Q S fuel (listed.setIfInBounds i true) a' w') Q) (h2 : oj.wp Try.prog a w (fun a' w' => S w' ∧ wpAnyH Try.prog .any ops Q S fuel (listed.setIfInBounds j true) a' w') Q) : wpAnyH Try.prog .any ops Q S (fuel + 1) listed a w :=
  wpAnyH_all hr (by simp) fun k hk => by
    have : k = i ∨ k = j := by simpa using hk
    rcases this with rfl | rfl
    · unfold wpOp
      simp only [hi, hwi, if_true]
      exact .inl h1
    · unfold wpOp
      simp only [hj, hwj, if_true]
      exact .inl h2
theorem y_move {x : Operand} {v : Value} (ho : o.op = .move x) (hx : a.eval x = v) : ∀ w, S w → (execOp a.eval o).run Try.prog w = .ok (.value v) w := fun w _ => by unfold execOp; simp only [ho, hx, Sem.run_pure]
theorem y_nil {x : Operand} {ad : Addr} (ho : o.op = .nilCheck x) (hx : a.eval x = .pointer (some ad)) : ∀ w, S w → (execOp a.eval o).run Try.prog w = .ok (.value (.pointer (some ad))) w := fun w _ => by
  unfold execOp; simp only [ho, hx]; rfl
theorem y_field {t : TypeId} {k : Nat} {x : Operand} {ad ad' : Addr} (ho : o.op = .fieldAddr t x k) (hx : a.eval x = .pointer (some ad)) (hl : ∀ w, (Instr.fieldAt t (.pointer (some ad)) k).run Try.prog w = .ok (.pointer (some ad')) w) : ∀ w, S w → (execOp a.eval o).run Try.prog w = .ok (.value (.pointer (some ad'))) w := fun w _ => by
  unfold execOp; simp only [ho, hx, Sem.run_bind, hl w, Sem.run_pure, Result.andThen_ok]
theorem load_wp {t : TypeId} {x : Operand} {ad : Addr} {v : Value} (ho : o.op = .load t x) (hx : a.eval x = .pointer (some ad)) (hl : (Instr.loadAt t (.pointer (some ad))).run Try.prog w = .ok v w) (h : K (a.put o.dst v) w) : o.wp Try.prog a w K Q := by
  unfold Oper.wp execOp
  simp only [ho, hx, Sem.run_bind, hl, Sem.run_pure, Result.andThen_ok]
  exact h
theorem make_wp {x : Operand} {n : Nat} (ho : o.op = .makeSlice 25 x x) (hx : a.eval x = .int .i64 (n : Int)) (hn : n ≤ 4000000000) (h : K (a.put o.dst (.slice (some ⟨w.heap.size, 0, none⟩) n n)) (w.alloc (.cells (ints (noughts n)).toArray 3))) : o.wp Try.prog a w K Q := by
  unfold Oper.wp execOp
  simp only [ho, hx, Sem.run_bind, make78 n hn, Sem.run_pure, Result.andThen_ok]
  exact h
theorem build1_wp {x : Operand} {A : Option Addr} {n c : Nat} (ho : o.op = .buildSlice 32 1 #[(0, x)]) (hx : a.eval x = .slice A n c) (h : K (a.put o.dst (.slice (some ⟨w.heap.size, 0, none⟩) 1 1)) (w.alloc (.cells #[.slice A n c] 25))) : o.wp Try.prog a w K Q := by
  unfold Oper.wp execOp
  simp only [ho, List.map_toArray, List.map_cons, List.map_nil, hx]
  simp [go_sem]
  exact h
theorem append_wp (s x : Operand) (t : TypeId) (ho : o.op = .call { callee := .builtin .append, args := #[s, x], argTypes := #[t, t] })
    (base : Nat) (e : TypeId) (i : TypeInfo) (z : Value) (size bytes : Nat) (ht : Try.prog.underlying t = some (.slice e)) (hi : Try.prog.info? e = some i) (hz : i.zero = some z)
    (hsize : i.size = size) (hby : i.bytes = bytes) (hzs : z.cells.size = size) (hsz : 0 < size)
    (v : Value) (n : Nat) (xs : List Value) (hs : a.eval s = v) (hown : w.ownsRow base e size v n xs)
    (ad : Addr) (m c : Nat) (news : List Value) (hx : a.eval x = .slice (some ad) m c) (hl : news.length = m * size) (hnews : ∀ j u, news[j]? = some u → w.cell? (ad.add j) = some u) (h1 : ∀ u ∈ news, u.oneCell' = true)
    (h63 : n + m ≤ maxLen) (hbytes : (n + m) * bytes ≤ 140737488355328) (hbase : base ≤ w.heap.size)
    (h : ∀ v' w', w'.ownsRow base e size v' (n + m) (xs ++ news) → w.grownBy w' v.ownBlock → (v'.ownBlock = v.ownBlock ∨ v'.ownBlock = some w.heap.size) → K (a.put o.dst v') w') : o.wp Try.prog a w K Q := by
  obtain ⟨v', w', hrun, h2, h3, _, h4⟩ := run_append_own_at (P := Try.prog) w base t o.type e i z size bytes ht hi hz hsize hby hzs hsz v n xs hown ad m c news hl hnews h1 h63 hbytes hbase
  unfold Oper.wp execOp
  simp only [ho, resolve, invoke, builtin, Sem.run_bind, Sem.run_pure, Result.andThen_ok, List.map_toArray, List.map_cons, List.map_nil, hs, hx, hrun]
  exact h v' w' h2 h3 h4
theorem store39_wp {x y : Operand} {g n c : Nat} {A : Option Addr} {u : Value} (ho : o.op = .store 32 x y) (hx : a.eval x = .pointer (some ⟨g, 0, none⟩)) (hy : a.eval y = .slice A n c) (hc : w.cell? ⟨g, 0, none⟩ = some u) (hf : w.frozen? ⟨g, 0, none⟩ = false)
    (h : K (a.put o.dst undef) (w.setCell ⟨g, 0, none⟩ (.slice A n c))) : o.wp Try.prog a w K Q := by
  unfold Oper.wp execOp
  simp only [ho, hx, hy]
  simp [go_sem, hc, hf]
  exact h
end
theorem run_load39 {w : World} {b off n c : Nat} {A : Option Addr} (h : w.cell? ⟨b, off, none⟩ = some (.slice A n c)) : (Instr.loadAt 32 (.pointer (some ⟨b, off, none⟩))).run Try.prog w = .ok (.slice A n c) w := by
  simp [go_sem, h]
theorem run_field46_0 (b : Nat) (w : World) : (Instr.fieldAt 39 (.pointer (some ⟨b, 0, none⟩)) 0).run Try.prog w = .ok (.pointer (some ⟨b, 0, none⟩)) w := by kernel_rfl
theorem own_slice {base n size : Nat} {e : TypeId} {v : Value} {ls : List Value} {w : World} (h : w.ownsRow base e size v n ls) : ∃ A c, v = .slice A n c := by
  rcases h.2 with ⟨e1, e2⟩ | ⟨g, cap, cur, e1, _⟩
  · exact ⟨none, 0, by rw [e1, e2]⟩
  · exact ⟨_, _, e1⟩
theorem blk_cells (w : World) (l : List Value) (t : TypeId) : ∀ j u, l[j]? = some u → (w.alloc (.cells l.toArray t)).cell? ((⟨w.heap.size, 0, none⟩ : Addr).add j) = some u := fun j u hj => by
  have hB := Bx.new w t l
  rw [show (⟨w.heap.size, 0, none⟩ : Addr).add j = ⟨w.heap.size, j, none⟩ by simp [Addr.add]; omega, hB.cell j, hj]
theorem Ars.fr2 {w w' : World} {base : Nat} {v : Value} {vs : List Value} {L : List (List Int)} (h : Ars w base v vs L) {F : Nat → Prop} (k : Fr F w w') (h1 : ∀ b, v.ownBlock = some b → ¬ F b) (h2 : ∀ x ∈ vs, ∀ b, x.ownBlock = some b → ¬ F b) : Ars w' base v vs L :=
  ⟨h.len, own_fr h.own k h1, fun i hi hl => own_fr (h.row i hi hl) k (h2 _ (List.getElem_mem hi)), h.ne⟩
theorem Hp.more {T : TypeId} {C : List (List Int) → List Value} {w2 w4 : World} {base g n : Nat} {v v' : Value} {vs : List Value} {L : List (List Int)} (hT3 : T ≠ 3) (hT78 : T ≠ 25) (hA : Ars w2 base v vs L) (hB : Bx w2 g T (v :: C (L ++ [noughts n]))) (hg : base ≤ g)
    (hcap : cellsL (L ++ [noughts n]) ≤ 262144)
    (hown : w4.ownsRow base 25 1 v' (L.length + 1) (vs ++ [.slice (some ⟨w2.heap.size, 0, none⟩) n n])) (hgrow : ((w2.alloc (.cells (ints (noughts n)).toArray 3)).alloc (.cells #[.slice (some ⟨w2.heap.size, 0, none⟩) n n] 25)).grownBy w4 v.ownBlock)
    (hat : v'.ownBlock = v.ownBlock ∨ v'.ownBlock = some (w2.heap.size + 1 + 1)) :
    Hp T C (w4.setCell ⟨g, 0, none⟩ v') base g v' (vs ++ [.slice (some ⟨w2.heap.size, 0, none⟩) n n]) (L ++ [noughts n]) ∧ Fr (Fp g v vs) w2 (w4.setCell ⟨g, 0, none⟩ v') ∧ ∀ b, Fp g v' (vs ++ [.slice (some ⟨w2.heap.size, 0, none⟩) n n]) b → Fp g v vs b ∨ w2.heap.size ≤ b := by
  have hb3 : Below w2.heap.size w2 ((w2.alloc (.cells (ints (noughts n)).toArray 3)).alloc (.cells #[.slice (some ⟨w2.heap.size, 0, none⟩) n n] 25)) := (heap1 _ _).alloc (by simp) _
  have hsz3 : ((w2.alloc (.cells (ints (noughts n)).toArray 3)).alloc (.cells #[.slice (some ⟨w2.heap.size, 0, none⟩) n n] 25)).heap.size = w2.heap.size + 1 + 1 := by simp
  have hrow3 : Bx ((w2.alloc (.cells (ints (noughts n)).toArray 3)).alloc (.cells #[.slice (some ⟨w2.heap.size, 0, none⟩) n n] 25)) w2.heap.size 3 (ints (noughts n)) := (Bx.new w2 3 (ints (noughts n))).alloc _
  generalize ((w2.alloc (.cells (ints (noughts n)).toArray 3)).alloc (.cells #[.slice (some ⟨w2.heap.size, 0, none⟩) n n] 25)) = w3 at *
  have F3 : Fr (fun b => v.ownBlock = some b) w3 w4 := ⟨hgrow.os, hgrow.tape, hgrow.output, hgrow.size, fun b hb hn => hgrow.block b hb (fun e => hn e.symm)⟩
  have F4 : Fr (fun b => v.ownBlock = some b) w2 w4 := (Fr.of_below hb3).trans F3 fun _ h => .inl h
  have hvg : v.ownBlock ≠ some g := own_bx_ne hA.own hB (fun e => hT78 e.symm)
  have hB4 : Bx w4 g T (v :: C (L ++ [noughts n])) := hB.fr F4 hvg
  have hv2 : v.ownBlock ≠ some w2.heap.size := fun e => by have := own_lt hA.own e; omega
  have hrow4 : w4.ownsRow base 3 1 (.slice (some ⟨w2.heap.size, 0, none⟩) n n) (noughts n).length (ints (noughts n)) := by
    have hb4 := hrow3.fr F3 hv2
    rw [noughts_len]
    exact ⟨by simp [ints_len, noughts_len], .inr ⟨w2.heap.size, n, (ints (noughts n)).toArray, rfl, Nat.le_trans hg (Nat.le_of_lt hB.lt), hb4, Nat.le_refl _, by have := cells_ge (L ++ [noughts n]); have h9 := cells_row (L := L ++ [noughts n]) (k := L.length) (by simp); simp [noughts_len] at h9; unfold maxLen; omega, by simp [ints_len, noughts_len], by simp; exact List.take_of_length_le (by rw [ints_len, noughts_len]; exact Nat.le_refl _)⟩⟩
  have hA4 := hA.more F4 hrow4 (fun b hb => by simp [Value.ownBlock] at hb; omega) hown
  have F5 : Fr (fun b => b = g) w4 (w4.setCell ⟨g, 0, none⟩ v') := fr_set (fun b => b = g) w4 (p := ⟨g, 0, none⟩) rfl _
  have hg2 : g < w2.heap.size := hB.lt
  refine ⟨⟨?_, hA4.fr2 F5 ?_ ?_, hcap, hg⟩, ?_, ?_⟩
  · have := hB4.set_ 0 v'
    simpa using this
  · intro b hb e
    subst e
    exact own_bx_ne hA4.own hB4 (fun e => hT78 e.symm) hb
  · intro x hx b hb e
    subst e
    obtain ⟨i, hi, rfl⟩ := List.mem_iff_getElem.1 hx
    exact own_bx_ne (hA4.row i hi (by rw [← hA4.len]; exact hi)) hB4 (fun e => hT3 e.symm) hb
  · refine (F4.mono fun b hb => .inr (.inl hb)).trans (F5.mono (G := Fp g v vs) fun b hb => .inl hb) fun _ h => .inl h
  · intro b hb
    rcases hb with rfl | hb | ⟨x, hx, hb⟩
    · exact .inl (.inl rfl)
    · rcases hat with e | e
      · exact .inl (.inr (.inl (by rw [← e]; exact hb)))
      · rw [e] at hb; injection hb with hb; exact .inr (by omega)
    · rcases List.mem_append.1 hx with hx | hx
      · exact .inl (.inr (.inr ⟨x, hx, hb⟩))
      · rw [List.mem_singleton.1 hx] at hb
        simp [Value.ownBlock] at hb
        exact .inr (by omega)
end Go.Proofs.Ytignojhijmamhaa.Va
