/- PROVED here: parts TyXa TyXd TyPd TyPg TyPh TyPr TyXp TyXq TyYa TyYd of the claim. No condition but those in each theorem's own head. -/
import Derived.Test.YtignojhijmamhaaK06
import Derived.Shelf.Strconv.Itoa3
import Derived.Shelf.Small.Wraps
import Derived.Test.YtignojhijmamhaaProg
import Derived.ProofKit
import Derived.Shelf.Strings.BuilderK
import Derived.Lib.Hide
import Derived.RangeFuncRecord
import Derived.Test.YtignojhijmamhaaK02
import Derived.Deep.LoopGhost
import Derived.Deep.Light
import Derived.BigQuiet
import Derived.Test.YtignojhijmamhaaK05
import Derived.WalkLawsBesides
import Derived.Deep.RegionLaw
import Derived.Shelf.LaysM
import Derived.Shelf.Strings.Repeat
import Derived.Lib.AppendIntMem
import Derived.Lib.ItoaLen
import Derived.Test.YtignojhijmamhaaK03
import Derived.Tactics
import Derived.Tactics2
import Derived.WalkKit
import Derived.IntWalk
import Derived.KernelRfl
import Derived.Below
import Derived.Deep.Draws
import Derived.Deep.QuietTactic
import Derived.StillTailTactics
import Derived.Deep.DeepCutAuto
import Derived.Laws.OwnMore
import Derived.Laws.Rows
import Derived.OrdersHeld
import Derived.Deep.RegionWith
import Derived.Maps.AppendAt
import Derived.Laws.MakeOwn
import Derived.RangeFuncNested
import Derived.RangeFuncLeaves
import Derived.RangeFuncBound
import Derived.RangeFuncCalls
import Derived.RangeFuncBox
import Derived.Shelf.Abstract
import Derived.Shelf.RegionOpen
import Derived.OwnWalkIn
import Derived.TacticsInMore
import Derived.LoopNIn
import Derived.LoopIn
namespace Go.Proofs.Ytignojhijmamhaa.Ty
open Go Go.RowKit
open Tr (nth)
section
variable (l : List Tr.Nd)
def ndA (k : Int) : Tr.Nd := Tr.nth l k.toNat
def txA (k : Int) : List UInt8 := (ndA l k).tx.data.toList
def kidA (k : Int) (i : Nat) : Int := (ndA l k).ks.getD i 0
end
def Ahead (l : List Tr.Nd) : Prop := ∀ i (hi : i < l.length), ∀ k ∈ l[i].ks, 0 ≤ k ∧ k < (i : Int)
theorem ndA_eq {l : List Tr.Nd} {i : Nat} (hi : i < l.length) : ndA l (i : Int) = l[i] := by unfold ndA; rw [Int.toNat_natCast]; exact Tr.nth_eq hi
end Go.Proofs.Ytignojhijmamhaa.Ty
namespace Go.Proofs.Ytignojhijmamhaa.Ty
open Go Go.RowKit
open Tr (Bx heap1 bt Nds Ints)
theorem node_at {w0 w : World} {A : Option Addr} {l : List Tr.Nd} (hN : Nds w0 A l) (hb : Below w0.heap.size w0 w) (p : Nat) (hp : p < l.length) : ∃ bA off K c, A = some ⟨bA, off, none⟩ ∧ bA < w.heap.size ∧ w.cell? ⟨bA, off + p * 5, none⟩ = some (.int .i64 l[p].kd) ∧ w.cell? ⟨bA, off + p * 5 + 1, none⟩ = some (.int .i64 l[p].n) ∧
    w.cell? ⟨bA, off + p * 5 + 2, none⟩ = some (.int .i64 l[p].pl) ∧ w.cell? ⟨bA, off + p * 5 + 3, none⟩ = some (.string l[p].tx) ∧ w.cell? ⟨bA, off + p * 5 + 4, none⟩ = some (.slice K l[p].ks.length c) ∧ Ints w0 K l[p].ks := by
  obtain ⟨bA, off, rfl, hl, hc⟩ := hN (by omega)
  obtain ⟨K, c, c0, c1, c2, c3, c4, hK⟩ := hc p hp
  exact ⟨bA, off, K, c, rfl, Nat.lt_of_lt_of_le hl hb.size, (hb.cell (p := ⟨bA, off + p * 5, none⟩) hl).trans c0, (hb.cell (p := ⟨bA, off + p * 5 + 1, none⟩) hl).trans c1, (hb.cell (p := ⟨bA, off + p * 5 + 2, none⟩) hl).trans c2, (hb.cell (p := ⟨bA, off + p * 5 + 3, none⟩) hl).trans c3, (hb.cell (p := ⟨bA, off + p * 5 + 4, none⟩) hl).trans c4, hK⟩
end Go.Proofs.Ytignojhijmamhaa.Ty
namespace Go.Proofs.Ytignojhijmamhaa.Ty
open Go Go.RowKit
open Tr (Bx heap1 bt gen_world ret_bool cell_same)
def VPost (v : Value) (w : World) (e : Ending) (w' : World) : Prop := e = .returned v ∧ Below w.heap.size w w'
theorem bdrew {B : Nat} {a w : World} (h : Below B a w) : Below B a w.drew := ⟨h.os, h.tape, h.output, h.size, h.block⟩
end Go.Proofs.Ytignojhijmamhaa.Ty
namespace Go.Proofs.Ytignojhijmamhaa.Ty
open Go Go.RowKit
open Tr (Bx heap1 bt gen_world ret_bool cell_same)
section
variable {ops : Array Oper} {Q : Exit → Act → World → Prop} {S : World → Prop} {fuel : Nat} {listed : Array Bool} {a : Act} {w : World} {o : Oper}
theorem h_pure (i : Nat) (o : Oper) (v : Value) (hs : Region.noSelect ops = true) (hi : ops[i]? = some o) (hf : Region.free .any ops listed i = true) (hr : (Region.ready .any ops listed).contains i = true)
    (hQ : ∀ c a w, Q (.panic c) (a.put o.dst v) w → Q (.panic c) a w) (hw : Region.wanted o (yielded ops a.tmps) = true) (hy : ∀ w, S w → (execOp a.eval o).run Try.prog w = .ok (.value v) w) (hS : S w)
    (h : wpAnyH Try.prog .any ops Q S fuel (listed.setIfInBounds i true) (a.put o.dst v) w) : wpAnyH Try.prog .any ops Q S (fuel + 1) listed a w :=
  wpAnyH_take hi hs hf hr hQ (.inl ⟨hw, hy⟩) hS h
theorem hpu (i : Nat) (v : Value) {o : Oper} {t : Tmp} (hc : (Region.noSelect ops && (Region.free .any ops listed i && (Region.ready .any ops listed).contains i)) = true) (hi : ops[i]? = some o) (hd : o.dst = some t)
    (hQ : ∀ c a w, Q (.panic c) (a.put (some t) v) w → Q (.panic c) a w) (hw : Region.wanted o (yielded ops a.tmps) = true) (hy : ∀ w, S w → (execOp a.eval o).run Try.prog w = .ok (.value v) w) (hS : S w)
    (h : wpAnyH Try.prog .any ops Q S fuel (listed.setIfInBounds i true) (a.put (some t) v) w) : wpAnyH Try.prog .any ops Q S (fuel + 1) listed a w := by
  simp only [Bool.and_eq_true] at hc
  rw [← hd] at hQ h
  exact h_pure i o v hc.1 hi hc.2.1 hc.2.2 hQ hw hy hS h
theorem h_one (i : Nat) (o : Oper) (hi : ops[i]? = some o) (hr : Region.ready .any ops listed = [i]) (hw : Region.wanted o (yielded ops a.tmps) = true)
    (h : o.wp Try.prog a w (fun a' w' => S w' ∧ wpAnyH Try.prog .any ops Q S fuel (listed.setIfInBounds i true) a' w') Q) : wpAnyH Try.prog .any ops Q S (fuel + 1) listed a w :=
  wpAnyH_all hr (by simp) fun j hj => by
    obtain rfl : j = i := by simpa using hj
    unfold wpOp
    simp only [hi, hw, if_true]
    exact .inl h
theorem y_move {x : Operand} {v : Value} (ho : o.op = .move x) (hx : a.eval x = v) : ∀ w, S w → (execOp a.eval o).run Try.prog w = .ok (.value v) w := fun w _ => by unfold execOp; simp only [ho, hx, Sem.run_pure]
theorem y_bin {op : BinOp} {t : TypeId} {x y : Operand} {u v r : Value} (ho : o.op = .binOp op t x y t) (hx : a.eval x = u) (hy : a.eval y = v)
    (hg : ∀ w, (eqGuard op t x y u v).run Try.prog w = .ok () w) (hr : ∀ w, (binOp op t u v).run Try.prog w = .ok r w) : ∀ w, S w → (execOp a.eval o).run Try.prog w = .ok (.value r) w := fun w _ => by
  unfold execOp; simp only [ho, hx, hy, Sem.run_bind, hg, hr, Sem.run_pure, Result.andThen_ok]
theorem y_load {t : TypeId} {x : Operand} {ad : Addr} {v : Value} (ho : o.op = .load t x) (hx : a.eval x = .pointer (some ad)) (hl : ∀ w, S w → (Instr.loadAt t (.pointer (some ad))).run Try.prog w = .ok v w) : ∀ w, S w → (execOp a.eval o).run Try.prog w = .ok (.value v) w := fun w hS => by
  unfold execOp; simp only [ho, hx, Sem.run_bind, hl w hS, Sem.run_pure, Result.andThen_ok]
theorem y_field {t : TypeId} {k : Nat} {x : Operand} {ad ad' : Addr} (ho : o.op = .fieldAddr t x k) (hx : a.eval x = .pointer (some ad)) (hl : ∀ w, (Instr.fieldAt t (.pointer (some ad)) k).run Try.prog w = .ok (.pointer (some ad')) w) : ∀ w, S w → (execOp a.eval o).run Try.prog w = .ok (.value (.pointer (some ad'))) w := fun w _ => by
  unfold execOp; simp only [ho, hx, Sem.run_bind, hl w, Sem.run_pure, Result.andThen_ok]
theorem y_index {t : TypeId} {x y : Operand} {u v r : Value} (ho : o.op = .indexAddr t x y) (hx : a.eval x = u) (hy : a.eval y = v) (hl : ∀ w, (Instr.indexAt t u v).run Try.prog w = .ok r w) : ∀ w, S w → (execOp a.eval o).run Try.prog w = .ok (.value r) w := fun w _ => by
  unfold execOp; simp only [ho, hx, hy, Sem.run_bind, hl w, Sem.run_pure, Result.andThen_ok]
end
theorem blk_cells (w : World) (l : List Value) (t : TypeId) : ∀ j u, l[j]? = some u → (w.alloc (.cells l.toArray t)).cell? ((⟨w.heap.size, 0, none⟩ : Addr).add j) = some u := fun j u hj => by
  have hB := Bx.new w t l
  rw [show (⟨w.heap.size, 0, none⟩ : Addr).add j = ⟨w.heap.size, j, none⟩ by simp [Addr.add]; omega, hB.cell j, hj]
end Go.Proofs.Ytignojhijmamhaa.Ty
namespace Go.Proofs.Ytignojhijmamhaa.Ty
open Go Go.RowKit
open Tr (Bx heap1 bt gen_world ret_bool cell_same)
theorem wp_append_own2 {P : Program} (w : World) {o : Oper} {a : Act} {K : Act → World → Prop} {Q : Exit → Act → World → Prop} (s x : Operand) (t : TypeId)
    (ho : o.op = .call { callee := .builtin .append, args := #[s, x], argTypes := #[t, t] })
    (base : Nat) (e : TypeId) (i : TypeInfo) (z : Value) (size bytes : Nat) (ht : P.underlying t = some (.slice e)) (hi : P.info? e = some i) (hz : i.zero = some z)
    (hsize : i.size = size) (hby : i.bytes = bytes) (hzs : z.cells.size = size) (hsz : 0 < size)
    (v : Value) (n : Nat) (xs : List Value) (hs : a.eval s = v) (hown : w.ownsRow base e size v n xs)
    (ad : Addr) (m c : Nat) (news : List Value) (hx : a.eval x = .slice (some ad) m c) (hl : news.length = m * size) (hnews : ∀ j u, news[j]? = some u → w.cell? (ad.add j) = some u) (h1 : ∀ u ∈ news, u.oneCell' = true)
    (h63 : n + m ≤ maxLen) (hbytes : (n + m) * bytes ≤ 140737488355328) (hbase : base ≤ w.heap.size)
    (h : ∀ v' w', w'.ownsRow base e size v' (n + m) (xs ++ news) → w.grownBy w' v.ownBlock → (∀ k, v'.ownBlock = some k → v.ownBlock = some k ∨ w.heap.size ≤ k) → K (a.put o.dst v') w') : o.wp P a w K Q := by
  obtain ⟨v', w', hr, h2, h3, _⟩ := run_append_own (P := P) w base t o.type e i z size bytes ht hi hz hsize hby hzs hsz v n xs hown ad m c news hl hnews h1 h63 hbytes hbase
  have h5 : ∀ k, v'.ownBlock = some k → v.ownBlock = some k ∨ w.heap.size ≤ k := by
    rcases hown.2 with ⟨rfl, rfl⟩ | ⟨g, cap, cur, rfl, hbg, hg, hnc, hcm, hcs, htake⟩
    · have hx0 : xs = [] := List.eq_nil_of_length_eq_zero (by simpa using hown.1)
      subst hx0
      obtain ⟨v2, w2, hr2, h22, _, _⟩ := run_append_own (P := P) w w.heap.size t o.type e i z size bytes ht hi hz hsize hby hzs hsz _ 0 [] (World.ownsRow_nil w w.heap.size e size) ad m c news hl hnews h1 h63 hbytes (Nat.le_refl _)
      have he := hr.symm.trans hr2
      injection he with e1 e2
      subst e1
      subst e2
      exact fun k hk => .inr (h22.lt k hk).1
    · subst hsize
      by_cases hroom : n + m ≤ cap
      · have hfit : n * i.size + news.length ≤ cur.size := by rw [hl, hcs, ← Nat.add_mul]; exact Nat.mul_le_mul_right _ hroom
        have hr2 := run_append_room (P := P) w t o.type e i ht hi g n cap cur hg ad m c news hl hnews h1 hroom hfit
        have he := hr.symm.trans hr2
        injection he with e1 e2
        subst e1
        exact fun k hk => .inl hk
      · have holds : ∀ j u, xs[j]? = some u → w.cell? ((⟨g, 0, none⟩ : Addr).add j) = some u := hown.cells (g := g) rfl
        subst hby
        have hr2 := run_append_grow (P := P) w t o.type e i z ht hi hz ⟨g, 0, none⟩ n cap xs hown.1 holds ad m c news hl hnews (by omega) (by simp only [maxLen] at h63; omega) (growslice_fits (by omega) hbytes)
        have he := hr.symm.trans hr2
        injection he with e1 e2
        subst e1
        exact fun k hk => .inr (by simp [Value.ownBlock] at hk; omega)
  unfold Oper.wp execOp
  simp only [ho, resolve, invoke, builtin, Sem.run_bind, Sem.run_pure, Result.andThen_ok, List.map_toArray, List.map_cons, List.map_nil, hs, hx, hr]
  exact h v' w' h2 h3 h5
end Go.Proofs.Ytignojhijmamhaa.Ty
namespace Go.Proofs.Ytignojhijmamhaa.Ty
section
open Go Go.RowKit
open Tr (Bx heap1 bt gen_world ret_bool cell_same)
def Own (F : Nat) : Prop := ∃ fn, Try.prog.funcs[F]? = some fn ∧ (fn.name == "runtime.NumGoroutine") = false ∧ fn.body.isNone = false
theorem run_own {F : Nat} (h : Own F) (args : Array Value) (w : World) : (callFunc F args).run Try.prog w = .ok (.enter F args) w := by
  obtain ⟨fn, h1, h2, h3⟩ := h
  simp only [callFunc, Sem.run_bind, run_program, Result.andThen_ok, h1, h2, h3, Bool.false_eq_true, if_false, Sem.run_pure]
section
variable {ops : Array Oper} {Q : Exit → Act → World → Prop} {S : World → Prop} {fuel : Nat} {listed : Array Bool} {a : Act} {w : World} {o : Oper}
theorem h_callx (i : Nat) (o : Oper) {F : Nat} {xs : Array Operand} {ts : Array TypeId} {args : Array Value} {C : Ending → World → Prop} (hF : Own F) (ho : o.op = .call { callee := .value (.func F), args := xs, argTypes := ts }) (hi : ops[i]? = some o) (hr : Region.ready .any ops listed = [i])
    (hw : Region.wanted o (yielded ops a.tmps) = true) (ha' : (xs.toList.map a.eval).toArray = args) (hc : Calls Try.prog F args w C)
    (h : ∀ e w', C e w' → (∃ ch, e = .panicked ch ∧ Q (.panic ch) a w') ∨ ∃ v, e = .returned v ∧ S w' ∧ wpAnyH Try.prog .any ops Q S fuel (listed.setIfInBounds i true) (a.put o.dst v) w') : wpAnyH Try.prog .any ops Q S (fuel + 1) listed a w :=
  h_one i o hi hr hw (by
    have ha : xs.map a.eval = args := by rw [← ha']; exact Array.ext' (by rw [Array.toList_map])
    unfold Oper.wp execOp
    have e : a.eval (.func F) = .func (.func F) #[] #[] := rfl
    have e2 : (#[] ++ args : Array Value) ++ #[] = args := by simp
    simp only [ho, resolve, e, ha, Deferred.ofValue, invoke, Sem.run_bind, Sem.run_pure, Result.andThen_ok]
    rw [e2, run_own hF]
    exact hc.mono fun e w' hC => by
      rcases h e w' hC with ⟨ch, rfl, hq⟩ | ⟨v, rfl, hq⟩
      · exact hq
      · exact hq)
theorem y_assign {x : Operand} {v : Value} (ho : o.op = .assign x) (hx : a.eval x = v) : ∀ w, S w → (execOp a.eval o).run Try.prog w = .ok (.value v) w := fun w _ => by unfold execOp; simp only [ho, hx, Sem.run_pure]
theorem slice1 {K : Act → World → Prop} {x : Operand} {u : Int} (ho : o.op = .buildSlice 25 1 #[(0, x)]) (hx : a.eval x = .int .i64 u)
    (h : K (a.put o.dst (.slice (some ⟨w.heap.size, 0, none⟩) 1 1)) (w.alloc (.cells #[.int .i64 u] 3))) : o.wp Try.prog a w K Q := by
  unfold Oper.wp execOp
  simp only [ho, List.map_toArray, List.map_cons, List.map_nil, hx]
  simp [go_sem]
  exact h
end
end
end Go.Proofs.Ytignojhijmamhaa.Ty
namespace Go.Proofs.Ytignojhijmamhaa.Ty
open Go Go.RowKit
open Tr (Bx heap1 bt Nds Ints)
theorem run_slice35 (b off n c : Nat) (h1 : 1 ≤ n) (w : World) : (Instr.sliceAt 25 (.slice (some ⟨b, off, none⟩) n c) (some (.int .i64 1)) none none).run Try.prog w = .ok (.slice (some ⟨b, if c = 1 then off else off + 1, none⟩) (n - 1) (c - 1)) w := by
  have h : (1 : Int) ≤ (n : Int) := by omega
  simp [go_sem, Try.underlying25, h]
  split <;> rfl
section
variable {a : Act} {o : Oper} {S : World → Prop}
theorem y_slice1 {x : Operand} {u r : Value} (ho : o.op = .slice 25 x (some (.const (.int .i64 1))) none none) (hx : a.eval x = u) (hr : ∀ w, (Instr.sliceAt 25 u (some (.int .i64 1)) none none).run Try.prog w = .ok r w) : ∀ w, S w → (execOp a.eval o).run Try.prog w = .ok (.value r) w := fun w _ => by
  have hc : a.eval (.const (.int .i64 1)) = .int .i64 1 := rfl
  unfold execOp
  simp only [ho, hx, hc, Option.map_some, Option.map_none, Sem.run_bind, hr w, Sem.run_pure, Result.andThen_ok]
end
end Go.Proofs.Ytignojhijmamhaa.Ty
namespace Go.Proofs.Ytignojhijmamhaa.Ty
open Go Go.RowKit
open Tr (Bx heap1 bt Nds Ints)
def Caps (w0 : World) (A : Option Addr) (l : List Tr.Nd) : Prop := ∀ (p : Nat) (bA off : Nat) (K : Option Addr) (m c : Nat), p < l.length → A = some ⟨bA, off, none⟩ → w0.cell? ⟨bA, off + p * 5 + 4, none⟩ = some (.slice K m c) → (ndA l p).kd = 13 → 2 ≤ m → c ≠ 1
end Go.Proofs.Ytignojhijmamhaa.Ty
namespace Go.Proofs.Ytignojhijmamhaa.Ty
section
open Go
open Tr (nth stmB expB allB kidB ndB shB risB run1 ri1 ri2 numB txB idB sgB)
theorem shB_at {l : List Tr.Nd} (h : shB l = true) {p : Nat} (hp : p < l.length) : ndB l (ndA l p) = true := by
  rw [ndA_eq hp]; exact List.all_eq_true.1 h _ (List.getElem_mem hp)
def kdsA (l : List Tr.Nd) (p : Int) : List Int := (ndA l p).ks.map fun k => (ndA l k).kd
structure NdOk (l : List Tr.Nd) (p : Nat) : Prop where
  lo : 1 ≤ (ndA l p).kd
  hi : (ndA l p).kd ≤ 27
  tx : txB (ndA l p).kd (txA l p) = true
  num : numB (ndA l p).kd (ndA l p).n = true
  kid : kidB (ndA l p).kd (kdsA l p) = true
theorem nd_ok {l : List Tr.Nd} (h : shB l = true) {p : Nat} (hp : p < l.length) : NdOk l p := by
  have h1 := shB_at h hp
  unfold ndB at h1
  simp only [Bool.and_eq_true, decide_eq_true_eq] at h1
  obtain ⟨a, b, c, d, e⟩ := h1
  exact ⟨a, b, c, d, e⟩
theorem len_one {α : Type} {ks : List α} (h : ks.length = 1) : ∃ a, ks = [a] := by
  rcases ks with _ | ⟨a, _ | ⟨b, r⟩⟩
  · cases h
  · exact ⟨a, rfl⟩
  · simp at h
theorem len_two {α : Type} {ks : List α} (h : ks.length = 2) : ∃ a b, ks = [a, b] := by
  rcases ks with _ | ⟨a, _ | ⟨b, _ | ⟨c, r⟩⟩⟩
  · cases h
  · simp at h
  · exact ⟨a, b, rfl⟩
  · simp at h
theorem len_three {α : Type} {ks : List α} (h : ks.length = 3) : ∃ a b c, ks = [a, b, c] := by
  rcases ks with _ | ⟨a, _ | ⟨b, _ | ⟨c, _ | ⟨d, r⟩⟩⟩⟩
  · cases h
  · simp at h
  · simp at h
  · exact ⟨a, b, c, rfl⟩
  · simp at h
theorem kds_mem {l : List Tr.Nd} {p k : Int} (hk : k ∈ (ndA l p).ks) : (ndA l k).kd ∈ kdsA l p := List.mem_map.2 ⟨k, hk, rfl⟩
theorem run1_take (a : Int) : ∀ (l : List Int), ∀ x ∈ l.take (run1 a l), x = a
  | [], x, h => by cases h
  | y :: l, x, h => by
    unfold run1 at h
    split at h
    case isTrue e =>
      rw [List.take_succ_cons] at h
      rcases List.mem_cons.1 h with rfl | h
      · exact e
      · exact run1_take a l x h
    case isFalse => rw [List.take_zero] at h; cases h
theorem ri2_take (l : List Int) (a b : Int) : ∀ x ∈ l.take (ri2 l a b), x = a ∨ x = b := fun x h => by
  unfold ri2 at h
  rw [List.take_add] at h
  rcases List.mem_append.1 h with h | h
  · exact Or.inl (run1_take a l x h)
  · exact Or.inr (run1_take b _ x h)
theorem ris_all {l : List Int} {a b : Int} (h : risB l a b 0 = true) : ∀ x ∈ l, x = a ∨ x = b := fun x hx => by
  unfold risB at h
  rw [if_pos rfl, decide_eq_true_eq] at h
  have := ri2_take l a b x
  rw [h, List.take_length] at this
  exact this hx
theorem ris_last {l : List Int} {a b c : Int} (hc : c ≠ 0) (h : risB l a b c = true) : ∃ l', l = l' ++ [c] ∧ ∀ x ∈ l', x = a ∨ x = b := by
  unfold risB at h
  rw [if_neg hc] at h
  simp only [Bool.and_eq_true, decide_eq_true_eq] at h
  obtain ⟨h1, h2⟩ := h
  refine ⟨l.take (ri2 l a b), ?_, ri2_take l a b⟩
  have hi : ri2 l a b < l.length := by omega
  have e : l.take (ri2 l a b + 1) = l.take (ri2 l a b) ++ [l[ri2 l a b]] := List.take_succ_eq_append_getElem hi
  rw [List.getD_eq_getElem?_getD, List.getElem?_eq_getElem hi] at h2
  rw [h1, List.take_length] at e
  rw [show l[ri2 l a b] = c from h2] at e
  exact e
end
section
open Go
open Tr (nth stmB expB allB kidB ndB shB risB numB txB idB sgB)
theorem kidA_0 {l : List Tr.Nd} {p a : Int} {ks : List Int} (h : (ndA l p).ks = a :: ks) : kidA l p 0 = a := by unfold kidA; rw [h]; rfl
open Tr (StU stK kidsAt) in
theorem kidsAt_ks {l : List Tr.Nd} {p : Nat} (hp : p < l.length) : kidsAt l p = (ndA l p).ks := by
  unfold kidsAt; rw [ndA_eq hp]; simp [List.getD, hp]
open Tr (StU stK kidsAt) in
theorem ahead_of {l : List Tr.Nd} {b : Nat → Nat} (hS : StU l b l.length) (hb : ∀ q, q < l.length → b q ≤ q) : Ahead l := fun i hi k hk => by
  have h1 := hS i hi
  rw [kidsAt_ks hi, ndA_eq hi] at h1
  obtain ⟨m, e, h2, _⟩ := Tr.stK_mem _ i (b i) (fun q hq => hb q (by omega)) h1 k (List.mem_reverse.2 hk)
  omega
end
end Go.Proofs.Ytignojhijmamhaa.Ty
namespace Go.Proofs.Ytignojhijmamhaa.Ty
section
open Go Go.RowKit
open Tr (nth stmB expB allB kidB ndB shB txB numB dpt Snd sndB rgB)
theorem snd_ahead {l : List Tr.Nd} {r : Int} (h : Snd l r) : Ahead l := by
  obtain ⟨b, _, _, _, hS, _⟩ := h
  exact ahead_of hS fun q hq => hS.le q hq
end
end Go.Proofs.Ytignojhijmamhaa.Ty
