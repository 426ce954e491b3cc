/- PROVED here: the law LevelsRows returns true at any three numbers. No condition but those in each theorem's own head. -/
import Derived.Test.YtefnbjkmmmdagaaZ
namespace Go.Proofs.Ytefnbjkmmmdagaa
open Go Go.RowKit
/-- worlds in which nothing old has turned, and the names lie in their block -/
def NS (w : World) (gn : Nat) (w' : World) : Prop := w.heap.size ≤ gn ∧ Below w.heap.size w w' ∧ gn < w'.heap.size ∧ ∀ j, j < 16 → w'.cell? ⟨gn, j, none⟩ = some (.string (nmAt j))
theorem NS.alloc {w w' : World} {gn : Nat} (h : NS w gn w') (o : Obj) : NS w gn (w'.alloc o) :=
  ⟨h.1, h.2.1.alloc h.2.1.size _, by simp; have := h.2.2.1; omega, fun j hj => (Below.cell (heap1 w' o) (p := ⟨gn, j, none⟩) h.2.2.1).trans (h.2.2.2 j hj)⟩
theorem NS.drew {w w' : World} {gn : Nat} (h : NS w gn w') : NS w gn { w' with drawn := w'.drawn + 1 } := ⟨h.1, ⟨h.2.1.os, h.2.1.tape, h.2.1.output, h.2.1.size, h.2.1.block⟩, h.2.2⟩
theorem NS.grown {w w' w'' : World} {gn : Nat} {row : Option Nat} (h : NS w gn w') (hg : w'.grownBy w'' row) (hr : ∀ q, row = some q → gn < q) : NS w gn w'' := by
  have hn := h.2.2.1
  refine ⟨h.1, h.2.1.grown hg h.2.1.size (fun q hq => by have := hr q hq; have := h.1; omega), by have := hg.size; omega, fun j hj => ?_⟩
  exact (World.cell?_of_block (a := ⟨gn, j, none⟩) (hg.block gn hn (fun e => by have := hr gn e.symm; omega))).trans (h.2.2.2 j hj)
theorem NS.strs {w w' : World} {gn : Nat} (h : NS w gn w') (n : Nat) (hn : n ≤ 16) : Strs w' (some ⟨gn, 0, none⟩) (nm16.take n) := fun _ => by
  refine ⟨gn, 0, rfl, h.2.2.1, fun j hj => ?_⟩
  have hj' : j < 16 := by simp [nm16] at hj; omega
  rw [Nat.zero_add, h.2.2.2 j hj']
  congr 2
  unfold nmAt
  have hl : j < nm16.length := hj'
  rw [List.getElem_take]
  simp [hl]
theorem wrap_add {i p : Nat} (h : i + p < 16) : IntKind.i64.wrap ((i : Int) + ((p : Nat) : Int)) = ((i + p : Nat) : Int) := by
  rw [IntWalk.i64_in _ (by omega)]; omega
/-- the pairs of one set -/
def inS (i j : Nat) : List (ByteArray × ByteArray) := (List.range j).flatMap fun j => if (i >>> j) % 2 = 0 then [(nmAt i, nmAt (i + 2 ^ j))] else []
theorem setP_succ (k i : Nat) : setP k (i + 1) = setP k i ++ inS i k := by
  unfold setP inS; rw [List.range_succ, List.flatMap_append]; simp
theorem inS_succ (i j : Nat) : inS i (j + 1) = inS i j ++ if (i >>> j) % 2 = 0 then [(nmAt i, nmAt (i + 2 ^ j))] else [] := by
  unfold inS; rw [List.range_succ, List.flatMap_append]; simp
theorem inS_len (i : Nat) : ∀ j, (inS i j).length ≤ j
  | 0 => by simp [inS]
  | j + 1 => by have := inS_len i j; rw [inS_succ, List.length_append]; split <;> simp <;> omega
theorem setP_len (k : Nat) : ∀ i, (setP k i).length ≤ i * k
  | 0 => by simp [setP]
  | i + 1 => by have := setP_len k i; have h2 := inS_len i k; rw [setP_succ, List.length_append, Nat.add_mul]; omega
theorem rowP_succ (i : Nat) (h : 0 < i) : rowP (i + 1) = rowP i ++ [(nmAt (i - 1), nmAt i)] := by
  unfold rowP; rw [List.range_succ, List.flatMap_append]; simp [h]
theorem rowP_len : ∀ i, (rowP i).length ≤ i
  | 0 => by simp [rowP]
  | 1 => by decide
  | i + 2 => by
    have := rowP_len (i + 1)
    rw [rowP_succ (i + 1) (by omega), List.length_append]; simp; omega
theorem new_c0 (w : World) (s t : ByteArray) : (w.alloc (.cells #[.string s, .string t] 45)).cell? ((⟨w.heap.size, 0, none⟩ : Addr).add 0) = some (.string s) := by simp [Addr.add]
theorem new_c1 (w : World) (s t : ByteArray) : (w.alloc (.cells #[.string s, .string t] 45)).cell? ((⟨w.heap.size, 0, none⟩ : Addr).add 1) = some (.string t) := by simp [Addr.add]
theorem blk_of {v v' : Value} {w : World} {o : Obj} (h : v'.ownBlock = v.ownBlock ∨ v'.ownBlock = some (w.alloc o).heap.size) : v'.ownBlock = v.ownBlock ∨ v'.ownBlock = some (w.heap.size + 1) := by
  rcases h with h | h
  · exact .inl h
  · exact .inr (by rw [h]; simp)
theorem names_cells (w1 : World) : ∀ j, j < 16 → (w1.alloc (.cells #[.string ⟨#[97]⟩, .string ⟨#[98]⟩, .string ⟨#[99]⟩, .string ⟨#[100]⟩, .string ⟨#[101]⟩, .string ⟨#[102]⟩, .string ⟨#[103]⟩, .string ⟨#[104]⟩, .string ⟨#[105]⟩, .string ⟨#[106]⟩, .string ⟨#[107]⟩, .string ⟨#[108]⟩, .string ⟨#[109]⟩, .string ⟨#[110]⟩, .string ⟨#[111]⟩, .string ⟨#[112]⟩] 9)).cell? ⟨w1.heap.size, j, none⟩ = some (.string (nmAt j)) := fun j hj => by
  have h := strs_new w1 nm16 (by decide)
  obtain ⟨b, off, e, _, hc⟩ := h
  injection e with e
  injection e with e1 e2
  subst e1; subst e2
  have hl : j < nm16.length := hj
  have := hc j hl
  rw [Nat.zero_add] at this
  refine Eq.trans this ?_
  unfold nmAt; simp [hl]
/-- two slices of the call's own lie apart -/
def Apart2 (v v' : Value) : Prop := ∀ q, v.ownBlock = some q → v'.ownBlock ≠ some q
theorem Apart2.nil (v : Value) : Apart2 (.slice none 0 0) v := fun q h => by simp [Value.ownBlock] at h
theorem apart_app {w : World} {base : Nat} {v v' v2 : Value} {l : List (ByteArray × ByteArray)} (h : Apart2 v v2) (h2 : OwP w base v2 l) (hb : v'.ownBlock = v.ownBlock ∨ v'.ownBlock = some (w.heap.size + 1)) : Apart2 v' v2 := fun q hq e => by
  rcases hb with hb | hb
  · exact h q (hb ▸ hq) e
  · have h3 := (World.ownsRow.lt h2 q e).2
    rw [hb] at hq; injection hq with hq; omega
theorem apart_app2 {w : World} {base : Nat} {v v' v2 : Value} {l : List (ByteArray × ByteArray)} (h : Apart2 v2 v) (h2 : OwP w base v2 l) (hb : v'.ownBlock = v.ownBlock ∨ v'.ownBlock = some (w.heap.size + 1)) : Apart2 v2 v' := fun q hq e => by
  rcases hb with hb | hb
  · exact h q hq (hb ▸ e)
  · have h3 := (World.ownsRow.lt h2 q hq).2
    rw [hb] at e; injection e with e; omega
theorem bit_test (i j : Nat) : (((i : Int) / 2 ^ j).tmod 2 == 0) = decide ((i >>> j) % 2 = 0) := by
  have e : (i : Int) / 2 ^ j = ((i >>> j : Nat) : Int) := by rw [Nat.shiftRight_eq_div_pow]; simp
  rw [e]
  clear e
  generalize i >>> j = z
  rw [Int.tmod_eq_emod_of_nonneg (by omega), Bool.eq_iff_iff, beq_iff_eq, decide_eq_true_eq]
  omega
theorem add_all : ((List.range 16).all fun i => (List.range 4).all fun j => !((i >>> j) % 2 == 0) || decide (i + 2 ^ j < 16)) = true := by decide +kernel
theorem add_lt (i j : Nat) (hi : i < 16) (hj : j < 4) (hb : (i >>> j) % 2 = 0) : i + 2 ^ j < 16 := by
  have h := List.all_eq_true.mp (List.all_eq_true.mp add_all i (List.mem_range.mpr hi)) j (List.mem_range.mpr hj)
  rw [hb] at h
  simpa using h
theorem shl0 (w : World) : (binOp .shl 3 (.int .i64 1) (.int .i64 ((0 : Nat) : Int))).run Try.prog w = .ok (.int .i64 ((2 ^ 0 : Nat) : Int)) w := by kernel_rfl
theorem shl1 (w : World) : (binOp .shl 3 (.int .i64 1) (.int .i64 ((1 : Nat) : Int))).run Try.prog w = .ok (.int .i64 ((2 ^ 1 : Nat) : Int)) w := by kernel_rfl
theorem shl2 (w : World) : (binOp .shl 3 (.int .i64 1) (.int .i64 ((2 : Nat) : Int))).run Try.prog w = .ok (.int .i64 ((2 ^ 2 : Nat) : Int)) w := by kernel_rfl
theorem shl3 (w : World) : (binOp .shl 3 (.int .i64 1) (.int .i64 ((3 : Nat) : Int))).run Try.prog w = .ok (.int .i64 ((2 ^ 3 : Nat) : Int)) w := by kernel_rfl
theorem shl_run {j : Nat} (hj : j < 4) (w : World) : (binOp .shl 3 (.int .i64 1) (.int .i64 (j : Int))).run Try.prog w = .ok (.int .i64 ((2 ^ j : Nat) : Int)) w := by
  have : j = 0 ∨ j = 1 ∨ j = 2 ∨ j = 3 := by omega
  rcases this with rfl | rfl | rfl | rfl
  · exact shl0 w
  · exact shl1 w
  · exact shl2 w
  · exact shl3 w
theorem y_shl {S : World → Prop} {a : Act} {o : Oper} {x y : Operand} {j : Nat} (hj : j < 4) (ho : o.op = .binOp .shl 3 x y 3) (hx : a.eval x = .int .i64 1) (hy : a.eval y = .int .i64 (j : Int)) : ∀ w, S w → (execOp a.eval o).run Try.prog w = .ok (.value (.int .i64 ((2 ^ j : Nat) : Int))) w :=
  y_bin ho hx hy (fun w => by simp [go_sem]) (fun w => shl_run hj w)
theorem OwP.drawn {w : World} {base : Nat} {v : Value} {l : List (ByteArray × ByteArray)} (h : OwP w base v l) {k : Nat} : OwP { w with drawn := k } base v l := h
theorem nm_len : nm16.length = 16 := by decide
theorem nm_all : nm16.all (fun s => decide (s.size ≤ 1)) = true := by decide +kernel
theorem nm_size (n : Nat) : ∀ s ∈ nm16.take n, s.size ≤ maxLen := fun s hs => by
  have := List.all_eq_true.mp nm_all s (List.mem_of_mem_take hs)
  rw [decide_eq_true_eq] at this
  unfold maxLen; omega
theorem newOk2 {l : List ByteArray} {ps : List (ByteArray × ByteArray)} {w : World} {e : Ending} {w' : World} (h : NewPost l ps w e w') (h0 : newE l ps = 0) : ∃ g, w.heap.size ≤ g ∧ e = .returned (.tuple #[.pointer (some ⟨g, 0, none⟩), .int .i64 0]) ∧ Below w.heap.size w w' ∧ Lat w' g l (uOf l ps) (dOf l ps) := by
  rcases h with ⟨h1, _⟩ | ⟨_, h2⟩
  · exact absurd h0 h1
  · exact h2
theorem lat_lt {w : World} {g : Nat} {l : List ByteArray} {u d : Nat → Nat} (h : Lat w g l u d) : g < w.heap.size := by
  obtain ⟨dn, f, ⟨A, c, gu, gd, h1, _⟩, _⟩ := h
  exact (Array.getElem?_eq_some_iff.1 h1).1
set_option maxRecDepth 100000 in
set_option maxHeartbeats 8000000 in
theorem levelsRows_any (n x y : Int) (w : World) (hn1 : -9223372036854775808 ≤ n) (hn2 : n ≤ 9223372036854775807) (hx1 : -9223372036854775808 ≤ x) (hx2 : x ≤ 9223372036854775807) (hy1 : -9223372036854775808 ≤ y) (hy2 : y ≤ 9223372036854775807) :
    Calls Try.prog 6 #[.int .i64 n, .int .i64 x, .int .i64 y] w fun e w' => e = .returned (.bool true) ∧ Below w.heap.size w w' := by
  have HPN := Lib.hid (fun w => pick_any n 4 (by omega) (by omega) hn1 hn2 w)
  have HPX := Lib.hid (fun m h1 h2 w => pick_any x m h1 h2 hx1 hx2 w)
  have HPY := Lib.hid (fun m h1 h2 w => pick_any y m h1 h2 hy1 hy2 w)
  have hk := pickF_lt n 4 (by omega)
  generalize pickF n 4 = k0 at *
  clear hn1 hn2 hx1 hx2 hy1 hy2
  go_enter Try.func6, Try.ntmps6
  go_upto_region 4 with (first
    | (go_at_call 8; refine (shown_any _).mono ?_; rintro e w1 ⟨rfl, hb1⟩)
    | (go_at_call 32; refine (HPN.out _).mono ?_; rintro e w' ⟨rfl, rfl⟩))
  go_upto_region 7 with fail
  have hK : ((k0 : Int) + 1) = ((k0 + 1 : Nat) : Int) := by omega
  have hM : wrap64 (2 ^ (k0 + 1)) = ((2 ^ (k0 + 1) : Nat) : Int) := by
    have : k0 = 0 ∨ k0 = 1 ∨ k0 = 2 ∨ k0 = 3 := by omega
    rcases this with rfl | rfl | rfl | rfl <;> simp [wrap64]
  have HKM : Hid (k0 + 1 = 1 ∧ 2 ^ (k0 + 1) = 2 ∨ k0 + 1 = 2 ∧ 2 ^ (k0 + 1) = 4 ∨ k0 + 1 = 3 ∧ 2 ^ (k0 + 1) = 8 ∨ k0 + 1 = 4 ∧ 2 ^ (k0 + 1) = 16) := by
    have : k0 = 0 ∨ k0 = 1 ∨ k0 = 2 ∨ k0 = 3 := by omega
    refine Lib.hid ?_
    rcases this with rfl | rfl | rfl | rfl <;> decide
  rw [hM, hK]
  clear hM hK
  generalize (2 ^ (k0 + 1) : Nat) = M at *
  generalize k0 + 1 = K at *
  have hM1 : 2 ≤ M ∧ M ≤ 16 ∧ 1 ≤ K ∧ K ≤ 4 := by have := HKM.out; omega
  obtain ⟨hM1, hM2, hK1, hK2⟩ := hM1
  refine gen_world (fun w2 => NS w w1.heap.size w2) ⟨hb1.size, bt hb1 (heap1 w1 _), by simp, names_cells w1⟩ ?_
  intro w2 hN
  generalize w1.heap.size = gn at *
  clear hb1
  go_wp2_with fail
  go_loopw [11, 12, 13] (fun v11 v12 iv wr => ∃ i : Nat, i ≤ M ∧ iv = .int .i64 (i : Int) ∧ OwP wr (gn + 1) v11 (rowP i) ∧ OwP wr (gn + 1) v12 (setP K i) ∧ Apart2 v11 v12 ∧ NS w gn wr) (fun _ _ iv _ => M - (intOf iv).toNat)
  case atStart => exact ⟨0, by omega, rfl, OwP.nil _ _, OwP.nil _ _, Apart2.nil _, hN⟩
  case round =>
    clear hN
    obtain ⟨i, hi, rfl, hr11, hr12, hap, hN⟩ := hrel
    by_cases hlt : i < M
    · have hlz : (i : Int) < (M : Int) := by omega
      go_upto_if 34 with fail
      go_cut [11] (fun s11 wx => OwP wx (gn + 1) s11 (rowP (i + 1)) ∧ OwP wx (gn + 1) u12 (setP K i) ∧ Apart2 s11 u12 ∧ NS w gn wx)
      case first =>
        by_cases hi0 : 0 < i
        · have hi0z : (0 : Int) < (i : Int) := by omega
          have HR := Lib.hid (rowP_succ i hi0)
          have hrl := rowP_len i
          go_upto_region 11 with fail
          refine wp_region_held (S := NS w gn) (by kernel_rfl) ?_
          have hS := hN.drew
          refine h_pure 0 ({ dst := some 35, op := Op.move (Operand.tmp 11), type := 23, pos := "law.go:164", after := #[], guard := none } : Oper) (u11) (by kernel_rfl) rfl (by kernel_rfl) (by kernel_rfl) (fun _ _ _ h => h) rfl (y_move rfl rfl) hS ?_
          simp only [Act.put, List.setIfInBounds_toArray, List.set_cons_zero, List.set_cons_succ]
          refine h_pure 1 ({ dst := some 36, op := Op.move (Operand.tmp 9), type := 22, pos := "law.go:164", after := #[], guard := none } : Oper) (.slice (some ⟨gn, 0, none⟩) 16 16) (by kernel_rfl) rfl (by kernel_rfl) (by kernel_rfl) (fun _ _ _ h => h) rfl (y_move rfl rfl) hS ?_
          simp only [Act.put, List.setIfInBounds_toArray, List.set_cons_zero, List.set_cons_succ]
          refine h_pure 2 ({ dst := some 37, op := Op.move (Operand.tmp 13), type := 3, pos := "law.go:164", after := #[], guard := none } : Oper) (.int .i64 (i : Int)) (by kernel_rfl) rfl (by kernel_rfl) (by kernel_rfl) (fun _ _ _ h => h) rfl (y_move rfl rfl) hS ?_
          simp only [Act.put, List.setIfInBounds_toArray, List.set_cons_zero, List.set_cons_succ]
          refine h_pure 3 ({ dst := some 38, op := Op.binOp BinOp.sub 3 (Operand.tmp 37) (Operand.const (Value.int IntKind.i64 1)) 3, type := 3, pos := "law.go:164", after := #[{ on := 2, ground := Ground.data }], guard := none } : Oper) (.int .i64 ((i - 1 : Nat) : Int)) (by kernel_rfl) rfl (by kernel_rfl) (by kernel_rfl) (fun _ _ _ h => h) rfl (y_sub (u := (i : Int)) (v := 1) rfl rfl rfl (by rw [IntWalk.i64_in _ (by omega)]; omega)) hS ?_
          simp only [Act.put, List.setIfInBounds_toArray, List.set_cons_zero, List.set_cons_succ]
          refine h_pure 4 ({ dst := some 39, op := Op.indexAddr 22 (Operand.tmp 36) (Operand.tmp 38), type := 0, pos := "law.go:164", after := #[{ on := 1, ground := Ground.data }, { on := 3, ground := Ground.data }], guard := none } : Oper) (.pointer (some ⟨gn, 0 + (i - 1), none⟩)) (by kernel_rfl) rfl (by kernel_rfl) (by kernel_rfl) (fun _ _ _ h => h) rfl (y_index (n := 16) rfl rfl rfl (by omega)) hS ?_
          simp only [Act.put, List.setIfInBounds_toArray, List.set_cons_zero, List.set_cons_succ]
          refine h_pure 5 ({ dst := some 40, op := Op.load 9 (Operand.tmp 39), type := 9, pos := "law.go:164", after := #[{ on := 4, ground := Ground.data }], guard := none } : Oper) (.string (nmAt (i - 1))) (by kernel_rfl) rfl (by kernel_rfl) (by kernel_rfl) (fun _ _ _ h => h) rfl (y_load9 rfl rfl (fun w' h => by rw [Nat.zero_add]; exact h.2.2.2 (i - 1) (by omega))) hS ?_
          simp only [Act.put, List.setIfInBounds_toArray, List.set_cons_zero, List.set_cons_succ]
          refine h_pure 6 ({ dst := some 41, op := Op.move (Operand.tmp 9), type := 22, pos := "law.go:164", after := #[], guard := none } : Oper) (.slice (some ⟨gn, 0, none⟩) 16 16) (by kernel_rfl) rfl (by kernel_rfl) (by kernel_rfl) (fun _ _ _ h => h) rfl (y_move rfl rfl) hS ?_
          simp only [Act.put, List.setIfInBounds_toArray, List.set_cons_zero, List.set_cons_succ]
          refine h_pure 7 ({ dst := some 42, op := Op.move (Operand.tmp 13), type := 3, pos := "law.go:164", after := #[], guard := none } : Oper) (.int .i64 (i : Int)) (by kernel_rfl) rfl (by kernel_rfl) (by kernel_rfl) (fun _ _ _ h => h) rfl (y_move rfl rfl) hS ?_
          simp only [Act.put, List.setIfInBounds_toArray, List.set_cons_zero, List.set_cons_succ]
          refine h_pure 8 ({ dst := some 43, op := Op.indexAddr 22 (Operand.tmp 41) (Operand.tmp 42), type := 0, pos := "law.go:164", after := #[{ on := 6, ground := Ground.data }, { on := 7, ground := Ground.data }], guard := none } : Oper) (.pointer (some ⟨gn, 0 + i, none⟩)) (by kernel_rfl) rfl (by kernel_rfl) (by kernel_rfl) (fun _ _ _ h => h) rfl (y_index (n := 16) rfl rfl rfl (by omega)) hS ?_
          simp only [Act.put, List.setIfInBounds_toArray, List.set_cons_zero, List.set_cons_succ]
          refine h_pure 9 ({ dst := some 44, op := Op.load 9 (Operand.tmp 43), type := 9, pos := "law.go:164", after := #[{ on := 8, ground := Ground.data }], guard := none } : Oper) (.string (nmAt i)) (by kernel_rfl) rfl (by kernel_rfl) (by kernel_rfl) (fun _ _ _ h => h) rfl (y_load9 rfl rfl (fun w' h => by rw [Nat.zero_add]; exact h.2.2.2 (i) (by omega))) hS ?_
          simp only [Act.put, List.setIfInBounds_toArray, List.set_cons_zero, List.set_cons_succ]
          refine h_pure 10 ({ dst := some 45, op := Op.build 45 #[(0, Operand.tmp 40), (1, Operand.tmp 44)], type := 45, pos := "law.go:164", after := #[{ on := 5, ground := Ground.data }, { on := 9, ground := Ground.data }], guard := none } : Oper) (.agg #[.string (nmAt (i - 1)), .string (nmAt i)]) (by kernel_rfl) rfl (by kernel_rfl) (by kernel_rfl) (fun _ _ _ h => h) rfl (y_build45 rfl rfl rfl) hS ?_
          simp only [Act.put, List.setIfInBounds_toArray, List.set_cons_zero, List.set_cons_succ]
          refine wpAnyH_all (rs := [11]) (by kernel_rfl) (by simp) fun q hq => ?_
          obtain rfl : q = 11 := by simpa using hq
          clear hq
          refine o_buildP (o := { dst := some 46, op := Op.buildSlice 23 1 #[(0, Operand.tmp 45)], type := 23, pos := "law.go:164", after := #[{ on := 10, ground := Ground.data }], guard := none }) (x := .tmp 45) rfl rfl rfl rfl ?_
          have hS2 := hS.alloc (.cells #[.string (nmAt (i - 1)), .string (nmAt i)] 45)
          refine ⟨hS2, ?_⟩
          simp only [Act.put, List.setIfInBounds_toArray, List.set_cons_zero, List.set_cons_succ]
          refine wpAnyH_all (rs := [12]) (by kernel_rfl) (by simp) fun q hq => ?_
          obtain rfl : q = 12 := by simpa using hq
          clear hq
          refine o_appP (o := { dst := some 47, op := Op.call { callee := Callee.builtin Builtin.append, args := #[Operand.tmp 35, Operand.tmp 46], argTypes := #[23, 23] }, type := 23, pos := "law.go:164", after := #[{ on := 0, ground := Ground.data }, { on := 11, ground := Ground.data }], guard := none }) (sl := .tmp 35) (x := .tmp 46) (base := gn + 1) (l := rowP i) (s := nmAt (i - 1)) (t := nmAt i) rfl rfl rfl rfl rfl ((OwP.drawn hr11).keep (grown_below (row := none) (heap1 _ _)) (by simp)) (new_c0 _ _ _) (new_c1 _ _ _) (by omega) (by have := hS2.2.2.1; omega) ?_
          intro v' w4 own4 gr4 blk4
          have hS4 := hS2.grown gr4 (fun q hq => (hr11.lt q hq).1)
          refine ⟨hS4, ?_⟩
          simp only [Act.put, List.setIfInBounds_toArray, List.set_cons_zero, List.set_cons_succ]
          have hS := hS4
          refine h_pure 13 ({ dst := some 11, op := Op.assign (Operand.tmp 47), type := 23, pos := "law.go:164", after := #[{ on := 12, ground := Ground.data }, { on := 12, ground := Ground.chain }, { on := 0, ground := Ground.phase }, { on := 1, ground := Ground.phase }, { on := 2, ground := Ground.phase }, { on := 3, ground := Ground.phase }, { on := 4, ground := Ground.phase }, { on := 5, ground := Ground.phase }, { on := 6, ground := Ground.phase }, { on := 7, ground := Ground.phase }, { on := 8, ground := Ground.phase }, { on := 9, ground := Ground.phase }, { on := 10, ground := Ground.phase }, { on := 11, ground := Ground.phase }, { on := 12, ground := Ground.phase }], guard := none } : Oper) (v') (by kernel_rfl) rfl (by kernel_rfl) (by kernel_rfl) (fun _ _ _ h => h) rfl (y_assign rfl rfl) hS ?_
          simp only [Act.put, List.setIfInBounds_toArray, List.set_cons_zero, List.set_cons_succ]
          refine wpAnyH_done (by kernel_rfl) ?_ _
          go_wp2_with fail
          go_meet
          exact ⟨by rw [HR.out]; exact own4, OwP.keep ((OwP.drawn hr12).keep (grown_below (row := none) (heap1 _ _)) (by simp)) gr4 (fun q hq h => hap q h hq), apart_app hap hr12 (blk_of (v := u11) (w := wr) blk4), hS4⟩
        · obtain rfl : i = 0 := by omega
          go_wp2_with fail
          go_meet
          exact ⟨by rw [show rowP (0 + 1) = [] from rfl]; exact hr11, hr12, hap, hN⟩
      case rest =>
        obtain ⟨hs11, hs12, hap2, hN2⟩ := hcut
        go_wp2_with fail
        clear hr11 hr12 hap hN
        have hs12' : OwP wc (gn + 1) u12 (setP K i ++ inS i 0) := by rw [show inS i 0 = [] from rfl, List.append_nil]; exact hs12
        go_loopw [12, 14] (fun v12 jv ws => ∃ j : Nat, j ≤ K ∧ jv = .int .i64 (j : Int) ∧ OwP ws (gn + 1) u11 (rowP (i + 1)) ∧ OwP ws (gn + 1) v12 (setP K i ++ inS i j) ∧ Apart2 u11 v12 ∧ NS w gn ws) (fun _ jv _ => K - (intOf jv).toNat)
        case atStart => exact ⟨0, by omega, rfl, hs11, hs12', hap2, hN2⟩
        case round =>
          clear hs11 hs12 hs12' hap2 hN2
          obtain ⟨j, hj, rfl, hr11, hr12, hap, hN⟩ := hrel
          by_cases hlj : j < K
          · have hljz : (j : Int) < (K : Int) := by omega
            have HT := Lib.hid (bit_test i j)
            have HIS := Lib.hid (inS_succ i j)
            have hl1 := inS_len i j
            have hl2 := setP_len K i
            have hl3 : i * K ≤ 16 * 4 := Nat.mul_le_mul (by omega) hK2
            have hl : (setP K i ++ inS i j).length ≤ 9000 := by rw [List.length_append]; omega
            clear hl1 hl2 hl3
            by_cases hb : (i >>> j) % 2 = 0
            · have hq : (((i : Int) / 2 ^ j).tmod 2 == 0) = true := by rw [HT.out]; simpa using hb
              have h16 : i + 2 ^ j < 16 := add_lt i j (by omega) (by omega) hb
              have HIS' := Lib.hid (HIS.out.trans (by rw [if_pos hb]))
              clear hb
              go_upto_region 16 with fail
              clear hq
              refine wp_region_held (S := NS w gn) (by kernel_rfl) ?_
              have hS := hN.drew
              refine h_pure 0 ({ dst := some 58, op := Op.move (Operand.tmp 12), type := 23, pos := "law.go:168", after := #[], guard := none } : Oper) (u12) (by kernel_rfl) rfl (by kernel_rfl) (by kernel_rfl) (fun _ _ _ h => h) rfl (y_move rfl rfl) hS ?_
              simp only [Act.put, List.setIfInBounds_toArray, List.set_cons_zero, List.set_cons_succ]
              refine h_pure 1 ({ dst := some 59, op := Op.move (Operand.tmp 9), type := 22, pos := "law.go:168", after := #[], guard := none } : Oper) (.slice (some ⟨gn, 0, none⟩) 16 16) (by kernel_rfl) rfl (by kernel_rfl) (by kernel_rfl) (fun _ _ _ h => h) rfl (y_move rfl rfl) hS ?_
              simp only [Act.put, List.setIfInBounds_toArray, List.set_cons_zero, List.set_cons_succ]
              refine h_pure 2 ({ dst := some 60, op := Op.move (Operand.tmp 13), type := 3, pos := "law.go:168", after := #[], guard := none } : Oper) (.int .i64 (i : Int)) (by kernel_rfl) rfl (by kernel_rfl) (by kernel_rfl) (fun _ _ _ h => h) rfl (y_move rfl rfl) hS ?_
              simp only [Act.put, List.setIfInBounds_toArray, List.set_cons_zero, List.set_cons_succ]
              refine h_pure 3 ({ dst := some 61, op := Op.indexAddr 22 (Operand.tmp 59) (Operand.tmp 60), type := 0, pos := "law.go:168", after := #[{ on := 1, ground := Ground.data }, { on := 2, ground := Ground.data }], guard := none } : Oper) (.pointer (some ⟨gn, 0 + i, none⟩)) (by kernel_rfl) rfl (by kernel_rfl) (by kernel_rfl) (fun _ _ _ h => h) rfl (y_index (n := 16) rfl rfl rfl (by omega)) hS ?_
              simp only [Act.put, List.setIfInBounds_toArray, List.set_cons_zero, List.set_cons_succ]
              refine h_pure 4 ({ dst := some 62, op := Op.load 9 (Operand.tmp 61), type := 9, pos := "law.go:168", after := #[{ on := 3, ground := Ground.data }], guard := none } : Oper) (.string (nmAt i)) (by kernel_rfl) rfl (by kernel_rfl) (by kernel_rfl) (fun _ _ _ h => h) rfl (y_load9 rfl rfl (fun w' h => by rw [Nat.zero_add]; exact h.2.2.2 (i) (by omega))) hS ?_
              simp only [Act.put, List.setIfInBounds_toArray, List.set_cons_zero, List.set_cons_succ]
              refine h_pure 5 ({ dst := some 63, op := Op.move (Operand.tmp 9), type := 22, pos := "law.go:168", after := #[], guard := none } : Oper) (.slice (some ⟨gn, 0, none⟩) 16 16) (by kernel_rfl) rfl (by kernel_rfl) (by kernel_rfl) (fun _ _ _ h => h) rfl (y_move rfl rfl) hS ?_
              simp only [Act.put, List.setIfInBounds_toArray, List.set_cons_zero, List.set_cons_succ]
              refine h_pure 6 ({ dst := some 64, op := Op.move (Operand.tmp 13), type := 3, pos := "law.go:168", after := #[], guard := none } : Oper) (.int .i64 (i : Int)) (by kernel_rfl) rfl (by kernel_rfl) (by kernel_rfl) (fun _ _ _ h => h) rfl (y_move rfl rfl) hS ?_
              simp only [Act.put, List.setIfInBounds_toArray, List.set_cons_zero, List.set_cons_succ]
              refine h_pure 7 ({ dst := some 65, op := Op.move (Operand.tmp 14), type := 3, pos := "law.go:168", after := #[], guard := none } : Oper) (.int .i64 (j : Int)) (by kernel_rfl) rfl (by kernel_rfl) (by kernel_rfl) (fun _ _ _ h => h) rfl (y_move rfl rfl) hS ?_
              simp only [Act.put, List.setIfInBounds_toArray, List.set_cons_zero, List.set_cons_succ]
              refine h_pure 8 ({ dst := some 66, op := Op.binOp BinOp.shl 3 (Operand.const (Value.int IntKind.i64 1)) (Operand.tmp 65) 3, type := 3, pos := "law.go:168", after := #[{ on := 7, ground := Ground.data }], guard := none } : Oper) (.int .i64 ((2 ^ j : Nat) : Int)) (by kernel_rfl) rfl (by kernel_rfl) (by kernel_rfl) (fun _ _ _ h => h) rfl (y_shl (by omega) rfl rfl rfl) hS ?_
              simp only [Act.put, List.setIfInBounds_toArray, List.set_cons_zero, List.set_cons_succ]
              refine h_pure 9 ({ dst := some 67, op := Op.binOp BinOp.add 3 (Operand.tmp 64) (Operand.tmp 66) 3, type := 3, pos := "law.go:168", after := #[{ on := 6, ground := Ground.data }, { on := 8, ground := Ground.data }], guard := none } : Oper) (.int .i64 ((i + 2 ^ j : Nat) : Int)) (by kernel_rfl) rfl (by kernel_rfl) (by kernel_rfl) (fun _ _ _ h => h) rfl (y_add (u := (i : Int)) (v := ((2 ^ j : Nat) : Int)) rfl rfl rfl (wrap_add h16)) hS ?_
              simp only [Act.put, List.setIfInBounds_toArray, List.set_cons_zero, List.set_cons_succ]
              refine h_pure 10 ({ dst := some 68, op := Op.indexAddr 22 (Operand.tmp 63) (Operand.tmp 67), type := 0, pos := "law.go:168", after := #[{ on := 5, ground := Ground.data }, { on := 9, ground := Ground.data }], guard := none } : Oper) (.pointer (some ⟨gn, 0 + (i + 2 ^ j), none⟩)) (by kernel_rfl) rfl (by kernel_rfl) (by kernel_rfl) (fun _ _ _ h => h) rfl (y_index (n := 16) rfl rfl rfl h16) hS ?_
              simp only [Act.put, List.setIfInBounds_toArray, List.set_cons_zero, List.set_cons_succ]
              refine h_pure 11 ({ dst := some 69, op := Op.load 9 (Operand.tmp 68), type := 9, pos := "law.go:168", after := #[{ on := 10, ground := Ground.data }], guard := none } : Oper) (.string (nmAt (i + 2 ^ j))) (by kernel_rfl) rfl (by kernel_rfl) (by kernel_rfl) (fun _ _ _ h => h) rfl (y_load9 rfl rfl (fun w' h => by rw [Nat.zero_add]; exact h.2.2.2 (i + 2 ^ j) (by omega))) hS ?_
              simp only [Act.put, List.setIfInBounds_toArray, List.set_cons_zero, List.set_cons_succ]
              refine h_pure 12 ({ dst := some 70, op := Op.build 45 #[(0, Operand.tmp 62), (1, Operand.tmp 69)], type := 45, pos := "law.go:168", after := #[{ on := 4, ground := Ground.data }, { on := 11, ground := Ground.data }], guard := none } : Oper) (.agg #[.string (nmAt i), .string (nmAt (i + 2 ^ j))]) (by kernel_rfl) rfl (by kernel_rfl) (by kernel_rfl) (fun _ _ _ h => h) rfl (y_build45 rfl rfl rfl) hS ?_
              simp only [Act.put, List.setIfInBounds_toArray, List.set_cons_zero, List.set_cons_succ]
              refine wpAnyH_all (rs := [13]) (by kernel_rfl) (by simp) fun q hq => ?_
              obtain rfl : q = 13 := by simpa using hq
              clear hq
              refine o_buildP (o := { dst := some 71, op := Op.buildSlice 23 1 #[(0, Operand.tmp 70)], type := 23, pos := "law.go:168", after := #[{ on := 12, ground := Ground.data }], guard := none }) (x := .tmp 70) rfl rfl rfl rfl ?_
              have hS2 := hS.alloc (.cells #[.string (nmAt i), .string (nmAt (i + 2 ^ j))] 45)
              refine ⟨hS2, ?_⟩
              simp only [Act.put, List.setIfInBounds_toArray, List.set_cons_zero, List.set_cons_succ]
              refine wpAnyH_all (rs := [14]) (by kernel_rfl) (by simp) fun q hq => ?_
              obtain rfl : q = 14 := by simpa using hq
              clear hq
              refine o_appP (o := { dst := some 72, op := Op.call { callee := Callee.builtin Builtin.append, args := #[Operand.tmp 58, Operand.tmp 71], argTypes := #[23, 23] }, type := 23, pos := "law.go:168", after := #[{ on := 0, ground := Ground.data }, { on := 13, ground := Ground.data }], guard := none }) (sl := .tmp 58) (x := .tmp 71) (base := gn + 1) (l := setP K i ++ inS i j) (s := nmAt i) (t := nmAt (i + 2 ^ j)) rfl rfl rfl rfl rfl ((OwP.drawn hr12).keep (grown_below (row := none) (heap1 _ _)) (by simp)) (new_c0 _ _ _) (new_c1 _ _ _) (by omega) (by have := hS2.2.2.1; omega) ?_
              intro v' w4 own4 gr4 blk4
              have hS4 := hS2.grown gr4 (fun q hq => (hr12.lt q hq).1)
              refine ⟨hS4, ?_⟩
              simp only [Act.put, List.setIfInBounds_toArray, List.set_cons_zero, List.set_cons_succ]
              have hS := hS4
              refine h_pure 15 ({ dst := some 12, op := Op.assign (Operand.tmp 72), type := 23, pos := "law.go:168", after := #[{ on := 14, ground := Ground.data }, { on := 14, ground := Ground.chain }, { on := 0, ground := Ground.phase }, { on := 1, ground := Ground.phase }, { on := 2, ground := Ground.phase }, { on := 3, ground := Ground.phase }, { on := 4, ground := Ground.phase }, { on := 5, ground := Ground.phase }, { on := 6, ground := Ground.phase }, { on := 7, ground := Ground.phase }, { on := 8, ground := Ground.phase }, { on := 9, ground := Ground.phase }, { on := 10, ground := Ground.phase }, { on := 11, ground := Ground.phase }, { on := 12, ground := Ground.phase }, { on := 13, ground := Ground.phase }, { on := 14, ground := Ground.phase }], guard := none } : Oper) (v') (by kernel_rfl) rfl (by kernel_rfl) (by kernel_rfl) (fun _ _ _ h => h) rfl (y_assign rfl rfl) hS ?_
              simp only [Act.put, List.setIfInBounds_toArray, List.set_cons_zero, List.set_cons_succ]
              refine wpAnyH_done (by kernel_rfl) ?_ _
              go_wp2
              go_roundw
              case rel => exact ⟨j + 1, by omega, by go_num, OwP.keep ((OwP.drawn hr11).keep (grown_below (row := none) (heap1 _ _)) (by simp)) gr4 (fun q hq h => hap q hq h), by rw [HIS'.out, ← List.append_assoc]; exact own4, apart_app2 hap hr11 (blk_of (v := u12) (w := wr) blk4), hS4⟩
              case measure => simp [intOf]; omega
            · have hq : (((i : Int) / 2 ^ j).tmod 2 == 0) = false := by rw [HT.out]; simpa using hb
              have HIS' := Lib.hid (HIS.out.trans (by rw [if_neg hb, List.append_nil]))
              clear hb
              go_wp2
              go_roundw
              case rel => exact ⟨j + 1, by omega, by go_num, hr11, by rw [HIS'.out]; exact hr12, hap, hN⟩
              case measure => simp [intOf]; omega
          · have hljz : ¬ (j : Int) < (K : Int) := by omega
            obtain rfl : j = K := by omega
            go_wp2
            go_roundw
            case rel => exact ⟨i + 1, by omega, by go_num, hr11, by rw [setP_succ]; exact hr12, hap, hN⟩
            case measure => simp [intOf]; omega
    · have hlz : ¬ (i : Int) < (M : Int) := by omega
      obtain rfl : i = M := by omega
      obtain ⟨A1, c1, rfl, hP1⟩ := hr11.prs
      obtain ⟨A2, c2, rfl, hP2⟩ := hr12.prs
      have hlen : (nm16.take i).length = i := by rw [List.length_take, nm_len]; omega
      obtain ⟨f1, f2, f3, f4, f5⟩ := rows_facts (rows_all HKM.out)
      have hS0 := hN.strs i hM2
      have hb0 := hN.2.1
      have hpl1 : (rowP i).length ≤ maxLen := by have := rowP_len i; unfold maxLen; omega
      have hpl2 : (setP K i).length ≤ maxLen := by
        have h1 := setP_len K i
        have h2 : i * K ≤ 16 * 4 := Nat.mul_le_mul (by omega) hK2
        unfold maxLen; omega
      have h1 := fun w h1 h2 => new_any (some ⟨gn, 0, none⟩) 16 (nm16.take i) A1 c1 (rowP i) w (by rw [hlen]; unfold maxLen; omega) (by omega) (nm_size i) h1 hpl1 h2
      have h2 := fun w h1 h2 => new_any (some ⟨gn, 0, none⟩) 16 (nm16.take i) A2 c2 (setP K i) w (by rw [hlen]; unfold maxLen; omega) (by omega) (nm_size i) h1 hpl2 h2
      rw [hlen] at h1 h2
      have HN1 := Lib.hid h1
      have HN2 := Lib.hid h2
      have HF := Lib.hid (And.intro f1 (And.intro f2 (And.intro f3 (And.intro f4 f5))))
      have HLEN := Lib.hid hlen
      clear h1 h2 hpl1 hpl2 hlen f1 f2 f3 f4 f5 hr11 hr12 hap hN HKM HPN
      generalize (rowP i).length = n1 at *
      generalize (setP K i).length = n2 at *
      have hnil := nil26
      go_upto_region 23 with (first
        | (go_at_call_of 10 (Value.slice A1 n1 c1); refine (HN1.out _ hS0 hP1).mono ?_; rintro e w3 hP; obtain ⟨g1, hg1, rfl, hb3, hL1⟩ := newOk2 hP HF.out.2.2.1; clear hP)
        | (go_at_call_of 10 (Value.slice A2 n2 c2); refine (HN2.out _ (hS0.below hb3) (hP2.below hb3)).mono ?_; rintro e w4 hP; obtain ⟨g2, hg2, rfl, hb4, hL2⟩ := newOk2 hP HF.out.2.2.2.1; clear hP)
        | (go_at_call_of 32 (Value.int IntKind.i64 x); refine (HPX.out i (by omega) (by omega) _).mono ?_; rintro e w' ⟨rfl, rfl⟩)
        | (go_at_call_of 32 (Value.int IntKind.i64 y); refine (HPY.out i (by omega) (by omega) _).mono ?_; rintro e w' ⟨rfl, rfl⟩))
      have ha := pickF_lt x i (by omega)
      have hb := pickF_lt y i (by omega)
      generalize pickF x i = a at *
      generalize pickF y i = b at *
      have hg12 : g1 ≠ g2 := by have := lat_lt hL1; omega
      have hW : L2 w g1 g2 (nm16.take i) (uOf (nm16.take i) (rowP i)) (dOf (nm16.take i) (rowP i)) (uOf (nm16.take i) (setP K i)) (dOf (nm16.take i) (setP K i)) w4 :=
        ⟨⟨by have := hb0.size; omega, bt (bt hb0 hb3) hb4, hL1.below hb4⟩, ⟨by have := hb0.size; have := hb3.size; omega, bt (bt hb0 hb3) hb4, hL2⟩, hg12⟩
      obtain ⟨f1, f2, f3, f4, f5⟩ := HF.out
      have hlen := HLEN.out
      have hT1 := (new_latt f3).1
      have hT2 := (new_latt f4).1
      have f5 := f5 a ha b hb
      clear HN1 HN2 HF HLEN HPX HPY hS0 hP1 hP2 hb0 hb3 hb4 hL1 hL2 hg1 hg2 f3 f4
      generalize uOf (nm16.take i) (rowP i) = ua at *
      generalize dOf (nm16.take i) (rowP i) = da at *
      generalize uOf (nm16.take i) (setP K i) = ub at *
      generalize dOf (nm16.take i) (setP K i) = db at *
      generalize nm16.take i = l at *
      subst hlen
      have hL1 := hT1
      have hL2 := hT2
      clear hT1 hT2
      obtain ⟨e1, e2, e3, e4, e5⟩ := f5
      have kmax : (if (b : Int) > (a : Int) then (b : Int) else (a : Int)) = ((max a b : Nat) : Int) := by split <;> omega
      have kmin : (if (b : Int) < (a : Int) then (b : Int) else (a : Int)) = ((min a b : Nat) : Int) := by split <;> omega
      have kor := (or_and_i64 (a := a) (b := b) (by omega) (by omega)).1
      have kand := (or_and_i64 (a := a) (b := b) (by omega) (by omega)).2
      have ksub : IntKind.i64.wrap ((l.length : Int) - 1) = ((l.length - 1 : Nat) : Int) := by rw [IntWalk.i64_in _ (by omega)]; omega
      generalize max a b = mx at *
      generalize min a b = mn at *
      generalize a ||| b = oo at *
      generalize a &&& b = an at *
      generalize l.length - 1 = tp at *
      have hz : ((an : Int) == (a : Int)) = (an == a) := by rw [Bool.eq_iff_iff, beq_iff_eq, beq_iff_eq]; omega
      cases hp : (an == a) with
      | false =>
        rw [hp] at e5 hz
        refine p_region ?_
        refine p_move (v := .pointer (some ⟨g1, 0, none⟩)) rfl rfl ?_
        simp only [Act.put, List.setIfInBounds_toArray, List.set_cons_zero, List.set_cons_succ]
        refine p_move (v := .int .i64 (a : Int)) rfl rfl ?_
        simp only [Act.put, List.setIfInBounds_toArray, List.set_cons_zero, List.set_cons_succ]
        refine p_move (v := .int .i64 (b : Int)) rfl rfl ?_
        simp only [Act.put, List.setIfInBounds_toArray, List.set_cons_zero, List.set_cons_succ]
        refine p_call (args := #[.pointer (some ⟨g1, 0, none⟩), .int .i64 (a : Int), .int .i64 (b : Int)]) (v := .int .i64 (mx : Int)) own16 rfl rfl (l2_join hL1 hW ha hb e1) ?_
        intro wp1 hp1
        simp only [Act.put, List.setIfInBounds_toArray, List.set_cons_zero, List.set_cons_succ]
        refine p_move (v := .int .i64 (a : Int)) rfl rfl ?_
        simp only [Act.put, List.setIfInBounds_toArray, List.set_cons_zero, List.set_cons_succ]
        refine p_move (v := .int .i64 (b : Int)) rfl rfl ?_
        simp only [Act.put, List.setIfInBounds_toArray, List.set_cons_zero, List.set_cons_succ]
        refine p_max rfl rfl rfl kmax ?_
        simp only [Act.put, List.setIfInBounds_toArray, List.set_cons_zero, List.set_cons_succ]
        refine p_eqlI (b := true) rfl rfl rfl (by simp) ?_
        simp only [Act.put, List.setIfInBounds_toArray, List.set_cons_zero, List.set_cons_succ]
        refine p_move (v := .bool true) rfl rfl ?_
        simp only [Act.put, List.setIfInBounds_toArray, List.set_cons_zero, List.set_cons_succ]
        refine p_move (v := .pointer (some ⟨g1, 0, none⟩)) rfl rfl ?_
        simp only [Act.put, List.setIfInBounds_toArray, List.set_cons_zero, List.set_cons_succ]
        refine p_move (v := .int .i64 (a : Int)) rfl rfl ?_
        simp only [Act.put, List.setIfInBounds_toArray, List.set_cons_zero, List.set_cons_succ]
        refine p_move (v := .int .i64 (b : Int)) rfl rfl ?_
        simp only [Act.put, List.setIfInBounds_toArray, List.set_cons_zero, List.set_cons_succ]
        refine p_call (args := #[.pointer (some ⟨g1, 0, none⟩), .int .i64 (a : Int), .int .i64 (b : Int)]) (v := .int .i64 (mn : Int)) own18 rfl rfl (l2_meet hL1 hp1 ha hb e2) ?_
        intro wp2 hp2
        simp only [Act.put, List.setIfInBounds_toArray, List.set_cons_zero, List.set_cons_succ]
        refine p_move (v := .int .i64 (a : Int)) rfl rfl ?_
        simp only [Act.put, List.setIfInBounds_toArray, List.set_cons_zero, List.set_cons_succ]
        refine p_move (v := .int .i64 (b : Int)) rfl rfl ?_
        simp only [Act.put, List.setIfInBounds_toArray, List.set_cons_zero, List.set_cons_succ]
        refine p_min rfl rfl rfl kmin ?_
        simp only [Act.put, List.setIfInBounds_toArray, List.set_cons_zero, List.set_cons_succ]
        refine p_eqlI (b := true) rfl rfl rfl (by simp) ?_
        simp only [Act.put, List.setIfInBounds_toArray, List.set_cons_zero, List.set_cons_succ]
        refine p_pickT (v := .bool true) rfl rfl rfl ?_
        simp only [Act.put, List.setIfInBounds_toArray, List.set_cons_zero, List.set_cons_succ]
        refine p_move (v := .bool true) rfl rfl ?_
        simp only [Act.put, List.setIfInBounds_toArray, List.set_cons_zero, List.set_cons_succ]
        refine p_move (v := .pointer (some ⟨g2, 0, none⟩)) rfl rfl ?_
        simp only [Act.put, List.setIfInBounds_toArray, List.set_cons_zero, List.set_cons_succ]
        refine p_move (v := .int .i64 (a : Int)) rfl rfl ?_
        simp only [Act.put, List.setIfInBounds_toArray, List.set_cons_zero, List.set_cons_succ]
        refine p_move (v := .int .i64 (b : Int)) rfl rfl ?_
        simp only [Act.put, List.setIfInBounds_toArray, List.set_cons_zero, List.set_cons_succ]
        refine p_call (args := #[.pointer (some ⟨g2, 0, none⟩), .int .i64 (a : Int), .int .i64 (b : Int)]) (v := .int .i64 (oo : Int)) own16 rfl rfl (l2_join' hL2 hp2 ha hb e3) ?_
        intro wp3 hp3
        simp only [Act.put, List.setIfInBounds_toArray, List.set_cons_zero, List.set_cons_succ]
        refine p_move (v := .int .i64 (a : Int)) rfl rfl ?_
        simp only [Act.put, List.setIfInBounds_toArray, List.set_cons_zero, List.set_cons_succ]
        refine p_move (v := .int .i64 (b : Int)) rfl rfl ?_
        simp only [Act.put, List.setIfInBounds_toArray, List.set_cons_zero, List.set_cons_succ]
        refine p_or rfl rfl rfl kor ?_
        simp only [Act.put, List.setIfInBounds_toArray, List.set_cons_zero, List.set_cons_succ]
        refine p_eqlI (b := true) rfl rfl rfl (by simp) ?_
        simp only [Act.put, List.setIfInBounds_toArray, List.set_cons_zero, List.set_cons_succ]
        refine p_pickT (v := .bool true) rfl rfl rfl ?_
        simp only [Act.put, List.setIfInBounds_toArray, List.set_cons_zero, List.set_cons_succ]
        refine p_move (v := .bool true) rfl rfl ?_
        simp only [Act.put, List.setIfInBounds_toArray, List.set_cons_zero, List.set_cons_succ]
        refine p_move (v := .pointer (some ⟨g2, 0, none⟩)) rfl rfl ?_
        simp only [Act.put, List.setIfInBounds_toArray, List.set_cons_zero, List.set_cons_succ]
        refine p_move (v := .int .i64 (a : Int)) rfl rfl ?_
        simp only [Act.put, List.setIfInBounds_toArray, List.set_cons_zero, List.set_cons_succ]
        refine p_move (v := .int .i64 (b : Int)) rfl rfl ?_
        simp only [Act.put, List.setIfInBounds_toArray, List.set_cons_zero, List.set_cons_succ]
        refine p_call (args := #[.pointer (some ⟨g2, 0, none⟩), .int .i64 (a : Int), .int .i64 (b : Int)]) (v := .int .i64 (an : Int)) own18 rfl rfl (l2_meet' hL2 hp3 ha hb e4) ?_
        intro wp4 hp4
        simp only [Act.put, List.setIfInBounds_toArray, List.set_cons_zero, List.set_cons_succ]
        refine p_move (v := .int .i64 (a : Int)) rfl rfl ?_
        simp only [Act.put, List.setIfInBounds_toArray, List.set_cons_zero, List.set_cons_succ]
        refine p_move (v := .int .i64 (b : Int)) rfl rfl ?_
        simp only [Act.put, List.setIfInBounds_toArray, List.set_cons_zero, List.set_cons_succ]
        refine p_and rfl rfl rfl kand ?_
        simp only [Act.put, List.setIfInBounds_toArray, List.set_cons_zero, List.set_cons_succ]
        refine p_eqlI (b := true) rfl rfl rfl (by simp) ?_
        simp only [Act.put, List.setIfInBounds_toArray, List.set_cons_zero, List.set_cons_succ]
        refine p_pickT (v := .bool true) rfl rfl rfl ?_
        simp only [Act.put, List.setIfInBounds_toArray, List.set_cons_zero, List.set_cons_succ]
        refine p_move (v := .bool true) rfl rfl ?_
        simp only [Act.put, List.setIfInBounds_toArray, List.set_cons_zero, List.set_cons_succ]
        refine p_move (v := .pointer (some ⟨g2, 0, none⟩)) rfl rfl ?_
        simp only [Act.put, List.setIfInBounds_toArray, List.set_cons_zero, List.set_cons_succ]
        refine p_move (v := .int .i64 (a : Int)) rfl rfl ?_
        simp only [Act.put, List.setIfInBounds_toArray, List.set_cons_zero, List.set_cons_succ]
        refine p_move (v := .int .i64 (b : Int)) rfl rfl ?_
        simp only [Act.put, List.setIfInBounds_toArray, List.set_cons_zero, List.set_cons_succ]
        refine p_call (args := #[.pointer (some ⟨g2, 0, none⟩), .int .i64 (a : Int), .int .i64 (b : Int)]) (v := .bool false) own14 rfl rfl (l2_below' hL2 hp4 ha hb e5) ?_
        intro wp5 hp5
        simp only [Act.put, List.setIfInBounds_toArray, List.set_cons_zero, List.set_cons_succ]
        refine p_move (v := .int .i64 (a : Int)) rfl rfl ?_
        simp only [Act.put, List.setIfInBounds_toArray, List.set_cons_zero, List.set_cons_succ]
        refine p_move (v := .int .i64 (b : Int)) rfl rfl ?_
        simp only [Act.put, List.setIfInBounds_toArray, List.set_cons_zero, List.set_cons_succ]
        refine p_and rfl rfl rfl kand ?_
        simp only [Act.put, List.setIfInBounds_toArray, List.set_cons_zero, List.set_cons_succ]
        refine p_move (v := .int .i64 (a : Int)) rfl rfl ?_
        simp only [Act.put, List.setIfInBounds_toArray, List.set_cons_zero, List.set_cons_succ]
        refine p_eqlI (b := false) rfl rfl rfl hz ?_
        simp only [Act.put, List.setIfInBounds_toArray, List.set_cons_zero, List.set_cons_succ]
        refine p_eqlB (b := true) rfl rfl rfl rfl ?_
        simp only [Act.put, List.setIfInBounds_toArray, List.set_cons_zero, List.set_cons_succ]
        refine p_pickT (v := .bool true) rfl rfl rfl ?_
        simp only [Act.put, List.setIfInBounds_toArray, List.set_cons_zero, List.set_cons_succ]
        refine p_move (v := .bool true) rfl rfl ?_
        simp only [Act.put, List.setIfInBounds_toArray, List.set_cons_zero, List.set_cons_succ]
        refine p_move (v := .pointer (some ⟨g1, 0, none⟩)) rfl rfl ?_
        simp only [Act.put, List.setIfInBounds_toArray, List.set_cons_zero, List.set_cons_succ]
        refine p_call (args := #[.pointer (some ⟨g1, 0, none⟩)]) (v := .int .i64 (tp : Int)) own27 rfl rfl (l2_top hL1 hp5 f1) ?_
        intro wp6 hp6
        simp only [Act.put, List.setIfInBounds_toArray, List.set_cons_zero, List.set_cons_succ]
        refine p_move (v := .int .i64 (l.length : Int)) rfl rfl ?_
        simp only [Act.put, List.setIfInBounds_toArray, List.set_cons_zero, List.set_cons_succ]
        refine p_sub rfl rfl rfl ksub ?_
        simp only [Act.put, List.setIfInBounds_toArray, List.set_cons_zero, List.set_cons_succ]
        refine p_eqlI (b := true) rfl rfl rfl (by simp) ?_
        simp only [Act.put, List.setIfInBounds_toArray, List.set_cons_zero, List.set_cons_succ]
        refine p_pickT (v := .bool true) rfl rfl rfl ?_
        simp only [Act.put, List.setIfInBounds_toArray, List.set_cons_zero, List.set_cons_succ]
        refine p_move (v := .bool true) rfl rfl ?_
        simp only [Act.put, List.setIfInBounds_toArray, List.set_cons_zero, List.set_cons_succ]
        refine p_move (v := .pointer (some ⟨g2, 0, none⟩)) rfl rfl ?_
        simp only [Act.put, List.setIfInBounds_toArray, List.set_cons_zero, List.set_cons_succ]
        refine p_call (args := #[.pointer (some ⟨g2, 0, none⟩)]) (v := .int .i64 (0 : Int)) own25 rfl rfl (l2_bottom' hL2 hp6 f2) ?_
        intro wp7 hp7
        simp only [Act.put, List.setIfInBounds_toArray, List.set_cons_zero, List.set_cons_succ]
        refine p_eqlI (b := true) rfl rfl rfl (by simp) ?_
        simp only [Act.put, List.setIfInBounds_toArray, List.set_cons_zero, List.set_cons_succ]
        refine p_pickT (v := .bool true) rfl rfl rfl ?_
        simp only [Act.put, List.setIfInBounds_toArray, List.set_cons_zero, List.set_cons_succ]
        refine p_assign (v := .bool true) rfl rfl ?_
        simp only [Act.put, List.setIfInBounds_toArray, List.set_cons_zero, List.set_cons_succ]
        refine wpList_nil ?_
        have hBf := hp7.1.2.1
        go_wp2
        go_ret
        exact ⟨rfl, hBf⟩
      | true =>
        rw [hp] at e5 hz
        refine p_region ?_
        refine p_move (v := .pointer (some ⟨g1, 0, none⟩)) rfl rfl ?_
        simp only [Act.put, List.setIfInBounds_toArray, List.set_cons_zero, List.set_cons_succ]
        refine p_move (v := .int .i64 (a : Int)) rfl rfl ?_
        simp only [Act.put, List.setIfInBounds_toArray, List.set_cons_zero, List.set_cons_succ]
        refine p_move (v := .int .i64 (b : Int)) rfl rfl ?_
        simp only [Act.put, List.setIfInBounds_toArray, List.set_cons_zero, List.set_cons_succ]
        refine p_call (args := #[.pointer (some ⟨g1, 0, none⟩), .int .i64 (a : Int), .int .i64 (b : Int)]) (v := .int .i64 (mx : Int)) own16 rfl rfl (l2_join hL1 hW ha hb e1) ?_
        intro wp1 hp1
        simp only [Act.put, List.setIfInBounds_toArray, List.set_cons_zero, List.set_cons_succ]
        refine p_move (v := .int .i64 (a : Int)) rfl rfl ?_
        simp only [Act.put, List.setIfInBounds_toArray, List.set_cons_zero, List.set_cons_succ]
        refine p_move (v := .int .i64 (b : Int)) rfl rfl ?_
        simp only [Act.put, List.setIfInBounds_toArray, List.set_cons_zero, List.set_cons_succ]
        refine p_max rfl rfl rfl kmax ?_
        simp only [Act.put, List.setIfInBounds_toArray, List.set_cons_zero, List.set_cons_succ]
        refine p_eqlI (b := true) rfl rfl rfl (by simp) ?_
        simp only [Act.put, List.setIfInBounds_toArray, List.set_cons_zero, List.set_cons_succ]
        refine p_move (v := .bool true) rfl rfl ?_
        simp only [Act.put, List.setIfInBounds_toArray, List.set_cons_zero, List.set_cons_succ]
        refine p_move (v := .pointer (some ⟨g1, 0, none⟩)) rfl rfl ?_
        simp only [Act.put, List.setIfInBounds_toArray, List.set_cons_zero, List.set_cons_succ]
        refine p_move (v := .int .i64 (a : Int)) rfl rfl ?_
        simp only [Act.put, List.setIfInBounds_toArray, List.set_cons_zero, List.set_cons_succ]
        refine p_move (v := .int .i64 (b : Int)) rfl rfl ?_
        simp only [Act.put, List.setIfInBounds_toArray, List.set_cons_zero, List.set_cons_succ]
        refine p_call (args := #[.pointer (some ⟨g1, 0, none⟩), .int .i64 (a : Int), .int .i64 (b : Int)]) (v := .int .i64 (mn : Int)) own18 rfl rfl (l2_meet hL1 hp1 ha hb e2) ?_
        intro wp2 hp2
        simp only [Act.put, List.setIfInBounds_toArray, List.set_cons_zero, List.set_cons_succ]
        refine p_move (v := .int .i64 (a : Int)) rfl rfl ?_
        simp only [Act.put, List.setIfInBounds_toArray, List.set_cons_zero, List.set_cons_succ]
        refine p_move (v := .int .i64 (b : Int)) rfl rfl ?_
        simp only [Act.put, List.setIfInBounds_toArray, List.set_cons_zero, List.set_cons_succ]
        refine p_min rfl rfl rfl kmin ?_
        simp only [Act.put, List.setIfInBounds_toArray, List.set_cons_zero, List.set_cons_succ]
        refine p_eqlI (b := true) rfl rfl rfl (by simp) ?_
        simp only [Act.put, List.setIfInBounds_toArray, List.set_cons_zero, List.set_cons_succ]
        refine p_pickT (v := .bool true) rfl rfl rfl ?_
        simp only [Act.put, List.setIfInBounds_toArray, List.set_cons_zero, List.set_cons_succ]
        refine p_move (v := .bool true) rfl rfl ?_
        simp only [Act.put, List.setIfInBounds_toArray, List.set_cons_zero, List.set_cons_succ]
        refine p_move (v := .pointer (some ⟨g2, 0, none⟩)) rfl rfl ?_
        simp only [Act.put, List.setIfInBounds_toArray, List.set_cons_zero, List.set_cons_succ]
        refine p_move (v := .int .i64 (a : Int)) rfl rfl ?_
        simp only [Act.put, List.setIfInBounds_toArray, List.set_cons_zero, List.set_cons_succ]
        refine p_move (v := .int .i64 (b : Int)) rfl rfl ?_
        simp only [Act.put, List.setIfInBounds_toArray, List.set_cons_zero, List.set_cons_succ]
        refine p_call (args := #[.pointer (some ⟨g2, 0, none⟩), .int .i64 (a : Int), .int .i64 (b : Int)]) (v := .int .i64 (oo : Int)) own16 rfl rfl (l2_join' hL2 hp2 ha hb e3) ?_
        intro wp3 hp3
        simp only [Act.put, List.setIfInBounds_toArray, List.set_cons_zero, List.set_cons_succ]
        refine p_move (v := .int .i64 (a : Int)) rfl rfl ?_
        simp only [Act.put, List.setIfInBounds_toArray, List.set_cons_zero, List.set_cons_succ]
        refine p_move (v := .int .i64 (b : Int)) rfl rfl ?_
        simp only [Act.put, List.setIfInBounds_toArray, List.set_cons_zero, List.set_cons_succ]
        refine p_or rfl rfl rfl kor ?_
        simp only [Act.put, List.setIfInBounds_toArray, List.set_cons_zero, List.set_cons_succ]
        refine p_eqlI (b := true) rfl rfl rfl (by simp) ?_
        simp only [Act.put, List.setIfInBounds_toArray, List.set_cons_zero, List.set_cons_succ]
        refine p_pickT (v := .bool true) rfl rfl rfl ?_
        simp only [Act.put, List.setIfInBounds_toArray, List.set_cons_zero, List.set_cons_succ]
        refine p_move (v := .bool true) rfl rfl ?_
        simp only [Act.put, List.setIfInBounds_toArray, List.set_cons_zero, List.set_cons_succ]
        refine p_move (v := .pointer (some ⟨g2, 0, none⟩)) rfl rfl ?_
        simp only [Act.put, List.setIfInBounds_toArray, List.set_cons_zero, List.set_cons_succ]
        refine p_move (v := .int .i64 (a : Int)) rfl rfl ?_
        simp only [Act.put, List.setIfInBounds_toArray, List.set_cons_zero, List.set_cons_succ]
        refine p_move (v := .int .i64 (b : Int)) rfl rfl ?_
        simp only [Act.put, List.setIfInBounds_toArray, List.set_cons_zero, List.set_cons_succ]
        refine p_call (args := #[.pointer (some ⟨g2, 0, none⟩), .int .i64 (a : Int), .int .i64 (b : Int)]) (v := .int .i64 (an : Int)) own18 rfl rfl (l2_meet' hL2 hp3 ha hb e4) ?_
        intro wp4 hp4
        simp only [Act.put, List.setIfInBounds_toArray, List.set_cons_zero, List.set_cons_succ]
        refine p_move (v := .int .i64 (a : Int)) rfl rfl ?_
        simp only [Act.put, List.setIfInBounds_toArray, List.set_cons_zero, List.set_cons_succ]
        refine p_move (v := .int .i64 (b : Int)) rfl rfl ?_
        simp only [Act.put, List.setIfInBounds_toArray, List.set_cons_zero, List.set_cons_succ]
        refine p_and rfl rfl rfl kand ?_
        simp only [Act.put, List.setIfInBounds_toArray, List.set_cons_zero, List.set_cons_succ]
        refine p_eqlI (b := true) rfl rfl rfl (by simp) ?_
        simp only [Act.put, List.setIfInBounds_toArray, List.set_cons_zero, List.set_cons_succ]
        refine p_pickT (v := .bool true) rfl rfl rfl ?_
        simp only [Act.put, List.setIfInBounds_toArray, List.set_cons_zero, List.set_cons_succ]
        refine p_move (v := .bool true) rfl rfl ?_
        simp only [Act.put, List.setIfInBounds_toArray, List.set_cons_zero, List.set_cons_succ]
        refine p_move (v := .pointer (some ⟨g2, 0, none⟩)) rfl rfl ?_
        simp only [Act.put, List.setIfInBounds_toArray, List.set_cons_zero, List.set_cons_succ]
        refine p_move (v := .int .i64 (a : Int)) rfl rfl ?_
        simp only [Act.put, List.setIfInBounds_toArray, List.set_cons_zero, List.set_cons_succ]
        refine p_move (v := .int .i64 (b : Int)) rfl rfl ?_
        simp only [Act.put, List.setIfInBounds_toArray, List.set_cons_zero, List.set_cons_succ]
        refine p_call (args := #[.pointer (some ⟨g2, 0, none⟩), .int .i64 (a : Int), .int .i64 (b : Int)]) (v := .bool true) own14 rfl rfl (l2_below' hL2 hp4 ha hb e5) ?_
        intro wp5 hp5
        simp only [Act.put, List.setIfInBounds_toArray, List.set_cons_zero, List.set_cons_succ]
        refine p_move (v := .int .i64 (a : Int)) rfl rfl ?_
        simp only [Act.put, List.setIfInBounds_toArray, List.set_cons_zero, List.set_cons_succ]
        refine p_move (v := .int .i64 (b : Int)) rfl rfl ?_
        simp only [Act.put, List.setIfInBounds_toArray, List.set_cons_zero, List.set_cons_succ]
        refine p_and rfl rfl rfl kand ?_
        simp only [Act.put, List.setIfInBounds_toArray, List.set_cons_zero, List.set_cons_succ]
        refine p_move (v := .int .i64 (a : Int)) rfl rfl ?_
        simp only [Act.put, List.setIfInBounds_toArray, List.set_cons_zero, List.set_cons_succ]
        refine p_eqlI (b := true) rfl rfl rfl hz ?_
        simp only [Act.put, List.setIfInBounds_toArray, List.set_cons_zero, List.set_cons_succ]
        refine p_eqlB (b := true) rfl rfl rfl rfl ?_
        simp only [Act.put, List.setIfInBounds_toArray, List.set_cons_zero, List.set_cons_succ]
        refine p_pickT (v := .bool true) rfl rfl rfl ?_
        simp only [Act.put, List.setIfInBounds_toArray, List.set_cons_zero, List.set_cons_succ]
        refine p_move (v := .bool true) rfl rfl ?_
        simp only [Act.put, List.setIfInBounds_toArray, List.set_cons_zero, List.set_cons_succ]
        refine p_move (v := .pointer (some ⟨g1, 0, none⟩)) rfl rfl ?_
        simp only [Act.put, List.setIfInBounds_toArray, List.set_cons_zero, List.set_cons_succ]
        refine p_call (args := #[.pointer (some ⟨g1, 0, none⟩)]) (v := .int .i64 (tp : Int)) own27 rfl rfl (l2_top hL1 hp5 f1) ?_
        intro wp6 hp6
        simp only [Act.put, List.setIfInBounds_toArray, List.set_cons_zero, List.set_cons_succ]
        refine p_move (v := .int .i64 (l.length : Int)) rfl rfl ?_
        simp only [Act.put, List.setIfInBounds_toArray, List.set_cons_zero, List.set_cons_succ]
        refine p_sub rfl rfl rfl ksub ?_
        simp only [Act.put, List.setIfInBounds_toArray, List.set_cons_zero, List.set_cons_succ]
        refine p_eqlI (b := true) rfl rfl rfl (by simp) ?_
        simp only [Act.put, List.setIfInBounds_toArray, List.set_cons_zero, List.set_cons_succ]
        refine p_pickT (v := .bool true) rfl rfl rfl ?_
        simp only [Act.put, List.setIfInBounds_toArray, List.set_cons_zero, List.set_cons_succ]
        refine p_move (v := .bool true) rfl rfl ?_
        simp only [Act.put, List.setIfInBounds_toArray, List.set_cons_zero, List.set_cons_succ]
        refine p_move (v := .pointer (some ⟨g2, 0, none⟩)) rfl rfl ?_
        simp only [Act.put, List.setIfInBounds_toArray, List.set_cons_zero, List.set_cons_succ]
        refine p_call (args := #[.pointer (some ⟨g2, 0, none⟩)]) (v := .int .i64 (0 : Int)) own25 rfl rfl (l2_bottom' hL2 hp6 f2) ?_
        intro wp7 hp7
        simp only [Act.put, List.setIfInBounds_toArray, List.set_cons_zero, List.set_cons_succ]
        refine p_eqlI (b := true) rfl rfl rfl (by simp) ?_
        simp only [Act.put, List.setIfInBounds_toArray, List.set_cons_zero, List.set_cons_succ]
        refine p_pickT (v := .bool true) rfl rfl rfl ?_
        simp only [Act.put, List.setIfInBounds_toArray, List.set_cons_zero, List.set_cons_succ]
        refine p_assign (v := .bool true) rfl rfl ?_
        simp only [Act.put, List.setIfInBounds_toArray, List.set_cons_zero, List.set_cons_succ]
        refine wpList_nil ?_
        have hBf := hp7.1.2.1
        go_wp2
        go_ret
        exact ⟨rfl, hBf⟩
end Go.Proofs.Ytefnbjkmmmdagaa
