/- PROVED here: the contract of List, where the library's tables are as its text lays them. No condition but those in each theorem's own head. -/
import Derived.Test.YtabdhmfjbielaaaDoorI
import Derived.Test.YtabdhmfjbielaaaDoorL
import Derived.OwnWalk
import Derived.Laws.AppendOwn
namespace Go.Proofs.YtabdhmfjbielaaaDoor
open Go Go.RowKit

theorem info3 : (Tryd.prog.info? 3).map (fun i => (i.zero, i.size, i.bytes)) = some (some (.int .i64 0), 1, 8) := by kernel_rfl
/-- what the list of a set is -/
def ListPost (s : Nat) (w : World) (e : Ending) (w' : World) : Prop :=
  ∃ v, e = .returned v ∧ w'.ownsRow w.heap.size 3 1 v (els s 4096).length ((els s 4096).map (Value.int .i64)) ∧ Below w.heap.size w w'

set_option maxRecDepth 100000 in
set_option maxHeartbeats 4000000 in
theorem List_ (s : Nat) (w : World) (hT : Tabs w) : Calls Tryd.prog 35 #[.agg (ofF (wd s))] w (ListPost s w) := by
  have HT := Lib.hid (fun w' (hb : Below w.heap.size w w') => hT.below hb)
  clear hT
  obtain ⟨i0, hi, hz0, hz1, hz2⟩ := info_parts info3
  have hcn := cntK_le s 64
  go_enter Tryd.func35, Tryd.ntmps35
  go_upto_region 1 with fail
  refine gen_world (fun w1 => Below w.heap.size w w1 ∧ w1.heap.size = w.heap.size + 1 ∧ Blk w1 w.heap.size (ofF (wd s))) ⟨heap1 w _, by simp, heap_alloc_new w _⟩ ?_
  rintro w1 ⟨hb, hz, h1⟩
  go_wp2_with (first
    | ((with_reducible apply load_lit); (exact rfl); assumption)
    | (go_at_call 34; refine (Count s _).mono ?_; rintro e w2 ⟨rfl, hb2⟩)
    | (at_make; refine wpList_make_own _ rfl _ _ 22 rfl w.heap.size 3 i0 (.int .i64 0) 1 Tryd.underlying22 hi hz0 hz1 _ _ _ (cntK s 64) rfl rfl rfl (by rw [hz2]; omega) (by unfold maxLen; omega) (by have := hb2.size; omega) ?_))
  intro w3 hown hgrow
  have hb12 : Below w.heap.size w w2 := hb.trans (hb2.mono (by omega))
  have hb3 : Below w.heap.size w w3 := hb12.grown hgrow hb12.size (fun k hk => by cases hk)
  have h3 : Blk w3 w.heap.size (ofF (wd s)) := (hgrow.block w.heap.size (by have := hb2.size; omega) (by simp)).trans ((hb2.block w.heap.size (by omega)).trans h1)
  clear hb hz h1 hb2 hgrow hb12
  go_wp2_with (first | ((with_reducible apply load_lit25); (exact rfl); assumption))
  clear h3
  go_loopw [3, 11] (fun v i wr => ∃ k : Nat, k ≤ 64 ∧ i = .int .i64 k ∧ wr.ownsRow w.heap.size 3 1 v (els s (64 * k)).length ((els s (64 * k)).map (Value.int .i64)) ∧ Below w.heap.size w wr) (fun _ i _ => 64 - (intOf i).toNat)
  case atStart => exact ⟨0, by omega, rfl, by simpa [els] using hown, hb3⟩
  case round =>
    clear hown hb3
    obtain ⟨k, hk, rfl, hown, hbr⟩ := hrel
    by_cases hlt : k < 64
    · have hlz : (k : Int) < 64 := by omega
      have hgx := fun w => run_index25 (wd s) k hlt w
      go_wp2
      clear hgx
      go_loopw [3, 5] (fun v x wi => ∃ t y : Nat, Hid (WI s k t y) ∧ x = .int .u64 y ∧ wi.ownsRow w.heap.size 3 1 v (els s (64 * k + t)).length ((els s (64 * k + t)).map (Value.int .i64)) ∧ Below w.heap.size w wi) (fun _ x _ => (intOf x).toNat)
      case atStart => exact ⟨0, wd s k, Lib.hid (WI_start s k), rfl, hown, hbr⟩
      case round =>
        clear hown hbr
        obtain ⟨t, y, HW, rfl, hown, hbr⟩ := hrel
        by_cases hy : y = 0
        · subst hy
          have HZ := Lib.hid (WI_zero HW.out)
          go_wp2
          go_roundw
          case rel => exact ⟨k + 1, by omega, by go_num, by rw [← HZ.out]; exact hown, hbr⟩
          case measure => simp [intOf]; omega
        · have hyz : ((y : Int) != 0) = true := by simp; omega
          have HS := Lib.hid (WI_step HW.out hy)
          have hc := HS.out.1
          have hyl := HW.out.2.1
          have HTw := Lib.hid (HT.out _ hbr)
          have hln := els_len s (64 * k + t)
          have ht := HW.out.1
          go_wp2_with (first
            | (go_at_call 39; refine (tz _ hyl _ HTw.out).mono ?_; rintro e w' ⟨rfl, rfl⟩)
            | (at_builtin; refine wpList_append_own _ rfl _ _ 22 rfl w.heap.size 3 i0 (.int .i64 0) 1 8 Tryd.underlying22 hi hz0 hz1 hz2 rfl (by decide) _ _ _ rfl (hown.alloc _) ⟨wr.heap.size, 0, none⟩ 1 1 [.int .i64 ((64 * k + Lib.ctz 64 y : Nat) : Int)] rfl rfl ?c1 ?c2 ?c3 ?c4 ?c5 ?_))
          case c1 =>
            intro j u hj
            match j, hj with
            | 0, hj => simp at hj; subst hj; simp [Addr.add]; omega
          case c2 => intro u hu; simp at hu; subst hu; rfl
          case c3 => unfold maxLen; omega
          case c4 => omega
          case c5 => have := hbr.size; simp; omega
          intro v' w4 hown4 hgrow4 _
          have hb4 : Below w.heap.size w w4 := (hbr.alloc hbr.size _).grown hgrow4 (by have := hbr.size; simp; omega) (fun q hq => (hown.lt q hq).1)
          have hown5 : w4.ownsRow w.heap.size 3 1 v' (els s (64 * k + (Lib.ctz 64 y + 1))).length ((els s (64 * k + (Lib.ctz 64 y + 1))).map (Value.int .i64)) := by
            rw [HS.out.2.1]; simpa using hown4
          have HW5 := Lib.hid HS.out.2.2
          have hcl := clear_lt y hy
          clear hown4 hgrow4 hown hbr HS
          have hsub : IntKind.u64.wrap ((y : Int) - 1) = ((y - 1 : Nat) : Int) := by rw [IntKind.wrap_u64]; omega
          have hand : bits .and .u64 (y : Int) ((y - 1 : Nat) : Int) = ((y &&& (y - 1) : Nat) : Int) := u64_and_nat _ _ hyl (by omega)
          go_wp2
          go_roundw
          case rel => exact ⟨Lib.ctz 64 y + 1, y &&& (y - 1), HW5, rfl, hown5, hb4⟩
          case measure => simp [intOf]; omega
    · have hlz : ¬ (k : Int) < 64 := by omega
      obtain rfl : k = 64 := by omega
      go_wp2
      go_ret
      exact ⟨_, rfl, hown, hbr⟩
end Go.Proofs.YtabdhmfjbielaaaDoor
