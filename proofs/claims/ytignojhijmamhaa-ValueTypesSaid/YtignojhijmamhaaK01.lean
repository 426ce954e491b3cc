/- PROVED here: parts TyTkD TyZ TyMk of the claim. No condition but those in each theorem's own head. -/
import Derived.Test.YtignojhijmamhaaProg
import Derived.Tactics
import Derived.Tactics2
import Derived.WalkKit
import Derived.IntWalk
import Derived.KernelRfl
import Derived.Lib.Hide
import Derived.Below
import Derived.Deep.Draws
import Derived.Deep.QuietTactic
import Derived.BigQuiet
import Derived.StillTailTactics
import Derived.Deep.DeepCutAuto
import Derived.Laws.OwnMore
import Derived.Laws.Rows
import Derived.OrdersHeld
import Derived.Deep.RegionWith
import Derived.Maps.AppendAt
import Derived.Shelf.LaysM
import Derived.Shelf.LaysC
import Derived.Shelf.Strconv.ParseIntPublic10
import Derived.Test.YtignojhijmamhaaRows
import Derived.ProofKit
import Derived.LaidMore
import Derived.OpenShut
import Derived.Stop.Joined
import Derived.Carry
import Derived.Lib.LaidTab
import Derived.ChangeBears2
import Derived.LaidLaws
import Derived.Maps.OwnSet
import Derived.Maps.Keyed
import Derived.DeepKeys4
namespace Go.Proofs.Ytignojhijmamhaa.Ty.Tk
section
open Go Go.RowKit
theorem below_drewN {B : Nat} {a w : World} (h : Below B a w) (n : Nat) : Below B a (w.drewN n) := ⟨h.os, h.tape, h.output, h.size, h.block⟩
end
end Go.Proofs.Ytignojhijmamhaa.Ty.Tk
namespace Go.Proofs.Ytignojhijmamhaa.Ty
open Go Go.ChangeShapes Go.WideShapes Go.ChangeAt Go.RowKit
theorem laidOut : laidOutB Try.prog = true := by kernel_rfl
end Go.Proofs.Ytignojhijmamhaa.Ty
namespace Go.Proofs.Ytignojhijmamhaa.Ty
open Go Go.RowKit Go.Maps
theorem keyS : Keyed Try.prog 9 := string_keyed Try.underlying9
theorem row137 : (82 : TypeId) < Try.prog.types.size := of_decide_eq_true (by kernel_rfl)
theorem wide137 : (match Try.prog.underlying 82 with | some (.array _ _) | some (.struct _) => true | _ => false) = true := by kernel_rfl
theorem kt137 : Try.prog.keyTypeAt 2 82 = true := by kernel_rfl
set_option maxRecDepth 100000 in
theorem keyC : Keyed Try.prog 82 := Keyed.of_law (deep_law_laid laidOut (m := 2) (by omega) row137 kt137 wide137)
theorem keyOfS (s : ByteArray) (h : s.size ≤ 9223372036854775807) : keyOf Try.prog 9 (.string s) = some (.string s.data.toList) := by
  have h2 : s.size ≤ maxLen := by unfold maxLen; omega
  unfold keyOf mapKey
  simp [Try.underlying9, h2]
theorem type137 : Try.prog.keyType 82 = true := by kernel_rfl
theorem cells137 : Try.prog.cellsOf 82 = 2 := by kernel_rfl
theorem cells3 : Try.prog.cellsOf 3 = 1 := by kernel_rfl
theorem cells9 : Try.prog.cellsOf 9 = 1 := by kernel_rfl
theorem size258 : Try.prog.types.size = 151 + 1 := by kernel_rfl
set_option maxRecDepth 100000 in
theorem keyOfC (o : Int) (s : ByteArray) (ho : (Lit.int .i64 o).wf = true) (h : s.size ≤ 9223372036854775807) : ∃ kl, keyOf Try.prog 82 (.agg #[.int .i64 o, .string s]) = some kl := by
  have h2 : s.size ≤ maxLen := by unfold maxLen; omega
  have hf : Value.formed Try.prog 82 (.agg #[.int .i64 o, .string s]) = true := by simp [Value.formed, Try.underlying82, cells137]
  have k3 : ∀ d, Try.prog.keyLits (d + 1) 3 [.int .i64 o] = some [.int .i64 o] := fun d => by simp [Program.keyLits, Try.underlying3, ho]
  have k9 : ∀ d, Try.prog.keyLits (d + 1) 9 [.string s] = some [.string s.data.toList] := fun d => by simp [Program.keyLits, Try.underlying9, h2]
  have hl : ∀ d, Try.prog.keyLits (d + 1 + 1) 82 [.int .i64 o, .string s] = some [.int .i64 o, .string s.data.toList] := fun d => by
    unfold Program.keyLits
    rw [Try.underlying82]
    simp [cells137, cells3, cells9, k3, k9]
  refine ⟨.string (keyBytes [.int .i64 o, .string s.data.toList]), ?_⟩
  unfold keyOf
  rw [Try.underlying82]
  simp only [type137, hf, Bool.and_self, if_true, size258]
  have e : (Value.agg #[.int .i64 o, .string s]).cells.toList = [.int .i64 o, .string s] := rfl
  rw [e, hl]
  rfl
theorem zero3m (w : World) : (zeroValue 3).run Try.prog w = .ok (.int .i64 0) w := by kernel_rfl
open Classical in
def MapIs (w : World) (k : TypeId) (b : Nat) (F : Value → Option Int) (n : Nat) : Prop :=
  ∃ D : DataW Unit, w.ownsMap Try.prog k (plainElem Try.prog 3) b n D ∧ ∀ key kl, keyOf Try.prog k key = some kl → Maps.has D kl = (F key).isSome ∧ D.atKey kl (.lit (.int .i64 0)) = .lit (.int .i64 ((F key).getD 0))
section
variable {w w' : World} {k t : TypeId} {b n : Nat} {F : Value → Option Int}
theorem MapIs.made (w : World) (k : TypeId) : MapIs (w.alloc (.map #[] 0)) k w.heap.size (fun _ => none) 0 :=
  ⟨.map [], World.ownsMap_made _ _ _ _, fun _ _ _ => ⟨rfl, rfl⟩⟩
theorem MapIs.lt (h : MapIs w k b F n) : b < w.heap.size := h.choose_spec.1.lt
theorem MapIs.kept {row : Option Nat} (h : MapIs w k b F n) (hg : w.grownBy w' row) (hne : some b ≠ row) : MapIs w' k b F n := by
  obtain ⟨D, h1, h2⟩ := h
  exact ⟨D, h1.kept hg hne, h2⟩
theorem MapIs.same (h : MapIs w k b F n) (hb : w'.heap[b]? = w.heap[b]?) : MapIs w' k b F n := by
  obtain ⟨D, ⟨es, clock, h1, h3⟩, h2⟩ := h
  exact ⟨D, ⟨es, clock, hb.trans h1, h3⟩, h2⟩
theorem MapIs.below {m : Nat} (h : MapIs w k b F n) (hb : Below m w w') (hl : b < m) : MapIs w' k b F n := h.same (hb.block b hl)
theorem MapIs.mono {m : Nat} (h : MapIs w k b F n) (hm : n ≤ m) : MapIs w k b F m := by
  obtain ⟨D, h1, h2⟩ := h
  exact ⟨D, h1.mono hm, h2⟩
theorem MapIs.congr {G : Value → Option Int} (h : MapIs w k b F n) (e : ∀ x kl, keyOf Try.prog k x = some kl → F x = G x) : MapIs w k b G n := by
  obtain ⟨D, h1, h2⟩ := h
  exact ⟨D, h1, fun key kl hk => by rw [← e key kl hk]; exact h2 key kl hk⟩
theorem MapIs.look (h : MapIs w k b F n) (K : Keyed Try.prog k) (ht : Try.prog.underlying t = some (.map k 3)) {key : Value} {kl : Lit} (hk : keyOf Try.prog k key = some kl) :
    (Instr.lookup t (.map (some b)) key true).run Try.prog w = .ok (.tuple #[.int .i64 ((F key).getD 0), .bool (F key).isSome]) w := by
  obtain ⟨D, h1, h2⟩ := h
  obtain ⟨v, ps, hrun, hv⟩ := h1.look_ok K ht (zero3m w) (plainElem_int Try.underlying3 (by decide)) hk
  obtain ⟨e1, e2⟩ := h2 key kl hk
  obtain ⟨a, rfl, hz, _⟩ := plainElem_int_inv Try.underlying3 hv
  rw [hrun, e1]
  rw [e2] at hz
  simp only [Prod.mk.injEq, DataW.lit.injEq, Lit.int.injEq, true_and] at hz
  rw [hz.1]
theorem MapIs.look1 (h : MapIs w k b F n) (K : Keyed Try.prog k) (ht : Try.prog.underlying t = some (.map k 3)) {key : Value} {kl : Lit} (hk : keyOf Try.prog k key = some kl) :
    (Instr.lookup t (.map (some b)) key false).run Try.prog w = .ok (.int .i64 ((F key).getD 0)) w := by
  obtain ⟨D, h1, h2⟩ := h
  obtain ⟨c, hrun, hat, _⟩ := h1.lookup_int K ht Try.underlying3 (zero3m w) hk
  obtain ⟨e1, e2⟩ := h2 key kl hk
  rw [e2] at hat
  simp only [DataW.lit.injEq, Lit.int.injEq, true_and] at hat
  rw [hrun, hat]
open Classical in
theorem MapIs.put (h : MapIs w k b F n) (K : Keyed Try.prog k) (ht : Try.prog.underlying t = some (.map k 3)) (hn : n < 100000) {key : Value} {kl : Lit} (hk : keyOf Try.prog k key = some kl) {v : Int} (hv : (Lit.int .i64 v).wf = true) :
    ∃ w', (Instr.mapUpdate t (.map (some b)) key (.int .i64 v)).run Try.prog w = .ok () w' ∧ MapIs w' k b (fun x => if x = key then some v else F x) (n + 1) ∧ w.grownBy w' (some b) := by
  obtain ⟨D, h1, h2⟩ := h
  obtain ⟨w', hrun, hown, hg⟩ := h1.update K ht (by unfold maxLen; omega) hk (plainElem_int Try.underlying3 hv)
  refine ⟨w', hrun, ⟨_, hown, fun key' kl' hk' => ?_⟩, hg⟩
  by_cases e : key' = key
  · subst e
    obtain rfl : kl' = kl := by rw [hk] at hk'; exact (Option.some.inj hk').symm
    simp only [if_pos]
    exact ⟨has_put_same h1.isMap (K.key hk) _, atKey_put_same h1.isMap (K.key hk) _ _⟩
  · have hne : kl' ≠ kl := fun e2 => e (K.inj (e2 ▸ hk') hk)
    simp only [if_neg e]
    rw [has_put_other hne, atKey_put_other hne]
    exact h2 key' kl' hk'
end
end Go.Proofs.Ytignojhijmamhaa.Ty
