/- PROVED here: parts TyYp TyYx TyCk of the claim. No condition but those in each theorem's own head. -/
import Derived.Test.YtignojhijmamhaaK12
import Derived.Test.YtignojhijmamhaaK20
import Derived.Test.YtignojhijmamhaaK02
import Derived.Test.YtignojhijmamhaaK03
import Derived.Test.YtignojhijmamhaaK05
import Derived.Test.YtignojhijmamhaaK06
import Derived.Lib.Hide
import Derived.Tactics
import Derived.Tactics2
import Derived.WalkKit
import Derived.IntWalk
import Derived.KernelRfl
import Derived.Below
import Derived.Deep.Draws
import Derived.Deep.QuietTactic
import Derived.BigQuiet
import Derived.StillTailTactics
import Derived.Deep.DeepCutAuto
import Derived.Laws.OwnMore
import Derived.Laws.Rows
import Derived.OrdersHeld
import Derived.Deep.RegionWith
import Derived.Maps.AppendAt
import Derived.Laws.MakeOwn
import Derived.RangeFuncNested
import Derived.RangeFuncLeaves
import Derived.RangeFuncBound
import Derived.RangeFuncCalls
import Derived.RangeFuncBox
import Derived.Shelf.Abstract
import Derived.Shelf.RegionOpen
import Derived.OwnWalkIn
import Derived.TacticsInMore
import Derived.LoopNIn
import Derived.LoopIn
import Derived.Test.YtignojhijmamhaaK07
import Derived.Recover
import Derived.Laws.Pointers
import Derived.Test.YtignojhijmamhaaK01
import Derived.Laws.Strings2
import Derived.Shelf.LaysM
import Derived.Shelf.LaysC
import Derived.Shelf.Strconv.ParseIntPublic10
import Derived.Test.YtignojhijmamhaaProg
import Derived.Test.YtignojhijmamhaaK16
namespace Go.Proofs.Ytignojhijmamhaa.Ty
open Go Go.RowKit
open Tr (Bx heap1 bt Nds Ints BPost IPost VPost Snd rgB dpt)
theorem Caps.below {w w' : World} {A : Option Addr} {l : List Tr.Nd} (h : Caps w A l) (hN : Nds w A l) (hb : Below w.heap.size w w') : Caps w' A l := fun p bA off K m c hp hA hc hk hm => by
  obtain ⟨b, o, e, hlt, hcell⟩ := hN (by omega)
  obtain ⟨K', c', _, _, _, _, h4, _⟩ := hcell p hp
  rw [hA] at e
  injection e with e
  injection e with e1 e2
  subst e1 e2
  have h5 := ((hb.cell (p := ⟨bA, off + p * 5 + 4, none⟩) hlt).trans h4).symm.trans hc
  injection h5 with h5
  injection h5 with x1 x2 x3
  subst x1 x2 x3
  exact h p bA off _ _ _ hp hA h4 hk hm
end Go.Proofs.Ytignojhijmamhaa.Ty
namespace Go.Proofs.Ytignojhijmamhaa.Ty
open Go Go.RowKit
open Tr (Bx heap1 bt Nds VPost Snd dpt)
theorem y_pickF {S : World → Prop} {a : Act} {o : Oper} {c x y : Operand} {v : Value} (ho : o.op = .pick c x y) (hc : a.eval c = .bool false) (hy : a.eval y = v) : ∀ w, S w → (execOp a.eval o).run Try.prog w = .ok (.value v) w := fun w _ => by unfold execOp; simp [ho, hc, hy, asBool]
end Go.Proofs.Ytignojhijmamhaa.Ty
namespace Go.Proofs.Ytignojhijmamhaa.Ty
open Go Go.RowKit Go.Sort
open Tr (Bx heap1 bt Nds Ints VPost BPost)
theorem y_not {S : World → Prop} {a : Act} {o : Oper} {x : Operand} {b : Bool} (ho : o.op = .unOp .not 4 x) (hx : a.eval x = .bool b) : ∀ w, S w → (execOp a.eval o).run Try.prog w = .ok (.value (.bool (!b))) w := fun w _ => by unfold execOp; simp only [ho, hx]; simp [go_sem]
theorem own257 : Own 70 := ⟨_, Try.func70, by kernel_rfl, by kernel_rfl⟩
theorem own137 : Own 61 := ⟨_, Try.func61, by kernel_rfl, by kernel_rfl⟩
theorem run_field37_4b (b : Nat) (w : World) : (Instr.fieldAt 55 (.pointer (some ⟨b, 0, none⟩)) 4).run Try.prog w = .ok (.pointer (some ⟨b, 4, none⟩)) w := by kernel_rfl
theorem run_load35b {w : World} {b i n c : Nat} {A : Option Addr} (h : w.cell? ⟨b, i, none⟩ = some (.slice A n c)) : (Instr.loadAt 25 (.pointer (some ⟨b, i, none⟩))).run Try.prog w = .ok (.slice A n c) w := by simp [go_sem, h]
section
variable {w : World} {l : List Tr.Nd} {A O : Option Addr} {n bd bp : Nat}
set_option maxRecDepth 100000 in
set_option maxHeartbeats 1500000 in
theorem fitsCall_any (h : Prg w l A n O bd bp) (hcp : Caps w A l) (c co p k : Nat) (hp : p < n) (hkd : (ndA l p).kd = 13) (ks : List Int) (hks : (ndA l p).ks = (k : Int) :: ks) (hk : k < n) (hun : dnA l p (calN l p) ≠ none ∨ prF l (calN l p) 0 ≠ none) : Calls Try.prog 59 #[PrV A n c O co bd bp, .int .i64 (p : Int)] w (BPost (fitC l p) w) := by
  unfold PrV
  have xl : p < l.length := by rw [← h.len]; exact hp
  have xz : (p : Int) < (n : Int) := by omega
  obtain ⟨bA, off, K, cK, rfl, xt, x0, x1, x2, x3, x4, xI⟩ := node_at h.nds (Below.refl _ w) p xl
  rw [← ndA_eq xl] at x0 x1 x2 x3 x4 xI
  have hb0 := heap1 w (.cells #[.slice (some ⟨bA, off, none⟩) n c, .slice O n co, .map (some bd), .map (some bp)] 59)
  obtain ⟨bk, ok, rfl, hbk, hck⟩ := xI (by rw [hks]; simp)
  have hb1 := bt hb0 (heap1 (w.alloc (.cells #[.slice (some ⟨bA, off, none⟩) n c, .slice O n co, .map (some bd), .map (some bp)] 59)) (.cells #[.int .i64 (ndA l p).kd, .int .i64 (ndA l p).n, .int .i64 (ndA l p).pl, .string (ndA l p).tx, .slice (some ⟨bk, ok, none⟩) (ndA l p).ks.length cK] 55))
  have HC := Lib.hid (callee_any (h.below hb1) c co p k hp ks hks hk hun)
  have HV := Lib.hid (fun W (hb : Below w.heap.size w W) => variable_any (h.below hb) c co p hp)
  have hkr := h.kr hp
  rw [hks] at hkr
  have hkm := h.kl hp
  have HT := Lib.hid (fun W (hb : Below w.heap.size w W) K m cK (hK : Ints W K ks) (hm : m = ks.length) => typesOf_any (h.below hb) c co K m cK ks hK hm (fun x hx => hkr x (List.mem_cons_of_mem _ hx)) (by rw [hks, List.length_cons] at hkm; omega))
  have hcc : (ndA l p).ks.length = ks.length + 1 := by rw [hks]; rfl
  have hcx := hcp p bA off _ _ cK xl rfl x4 hkd
  have htl : (ndA l p).ks.tail = ks := by rw [hks]; rfl
  have hKI : ∀ j (hj : j < ks.length), w.cell? ⟨bk, ok + (j + 1), none⟩ = some (.int .i64 ks[j]) := fun j hj => by
    have := hck (j + 1) (by rw [hks, List.length_cons]; omega)
    rw [this]
    simp only [hks, List.getElem_cons_succ]
  unfold PrV at HC HV HT
  unfold fitC
  rw [htl]
  have e0 := (hb0.cell (p := ⟨bA, off + p * 5, none⟩) xt).trans x0
  have e1 := (hb0.cell (p := ⟨bA, off + p * 5 + 1, none⟩) xt).trans x1
  have e2 := (hb0.cell (p := ⟨bA, off + p * 5 + 2, none⟩) xt).trans x2
  have e3 := (hb0.cell (p := ⟨bA, off + p * 5 + 3, none⟩) xt).trans x3
  have e4 := (hb0.cell (p := ⟨bA, off + p * 5 + 4, none⟩) xt).trans x4
  have hB1 : Bx ((w.alloc (.cells #[.slice (some ⟨bA, off, none⟩) n c, .slice O n co, .map (some bd), .map (some bp)] 59)).alloc (.cells #[.int .i64 (ndA l p).kd, .int .i64 (ndA l p).n, .int .i64 (ndA l p).pl, .string (ndA l p).tx, .slice (some ⟨bk, ok, none⟩) (ndA l p).ks.length cK] 55)) w.heap.size 59 [.slice (some ⟨bA, off, none⟩) n c, .slice O n co, .map (some bd), .map (some bp)] ∧ Bx ((w.alloc (.cells #[.slice (some ⟨bA, off, none⟩) n c, .slice O n co, .map (some bd), .map (some bp)] 59)).alloc (.cells #[.int .i64 (ndA l p).kd, .int .i64 (ndA l p).n, .int .i64 (ndA l p).pl, .string (ndA l p).tx, .slice (some ⟨bk, ok, none⟩) (ndA l p).ks.length cK] 55)) (w.heap.size + 1) 55 [.int .i64 (ndA l p).kd, .int .i64 (ndA l p).n, .int .i64 (ndA l p).pl, .string (ndA l p).tx, .slice (some ⟨bk, ok, none⟩) (ndA l p).ks.length cK] := by
    have k2 := Bx.new (w.alloc (.cells #[.slice (some ⟨bA, off, none⟩) n c, .slice O n co, .map (some bd), .map (some bp)] 59)) 55 [.int .i64 (ndA l p).kd, .int .i64 (ndA l p).n, .int .i64 (ndA l p).pl, .string (ndA l p).tx, .slice (some ⟨bk, ok, none⟩) (ndA l p).ks.length cK]
    rw [World.size_alloc] at k2
    exact ⟨(Bx.new w 59 _).alloc _, k2⟩
  have HYL := Lib.hid (show ∀ my : Nat, my = (ks.map fun k => typA l k.toNat).length → my ≤ 100000 from fun my e => by rw [e, List.length_map]; rw [hks, List.length_cons] at hkm; omega)
  clear hks hkm
  clear h hk hun hkr htl hb0 hck xI x0 x1 x2 x3 x4 hp hcp xl
  generalize (ndA l (p : Int)).ks.length = m at *
  generalize (ndA l (p : Int)).tx = tx at *
  generalize (ndA l (p : Int)).kd = kd at *
  generalize (ndA l (p : Int)).n = nn at *
  generalize (ndA l (p : Int)).pl = pl at *
  generalize (calS l p).1.1 = xs at *
  generalize (calS l p).1.2 = rs at *
  generalize (calS l p).2 = okb at *
  generalize vrT l p = vt at *
  generalize (ks.map fun k => typA l k.toNat) = ys at *
  have HB1 := Lib.hid (And.intro hb1 hB1)
  have HM := Lib.hid (And.intro hcc (And.intro (hcx) (And.intro hbk hKI)))
  clear hb1 hB1 hcc hcx hKI hkd
  obtain ⟨R, hR⟩ : ∃ R, R = (okb && (decide (ys = xs) && (decide (tx = ⟨#[]⟩) || decide (vt = rs)))) := ⟨_, rfl⟩
  rw [← hR]
  have HR := Lib.hid hR
  clear hR
  go_enter Try.func59, Try.ntmps59
  go_wp2_with (go_at_call 69; refine HC.out.mono ?_)
  rintro e w2 ⟨VK, vc, rfl, hI2, hb2⟩
  obtain ⟨mx, hmx⟩ : ∃ mx, mx = xs.length := ⟨_, rfl⟩
  rw [← hmx]
  have hB3 := ((HB1.out.2.1.below hb2 HB1.out.2.1.lt).alloc (.cells #[.slice VK mx vc, .int .i64 rs] 85))
  have hN3 := ((HB1.out.2.2.below hb2 HB1.out.2.2.lt).alloc (.cells #[.slice VK mx vc, .int .i64 rs] 85))
  have hS3 := Bx.new w2 85 [.slice VK mx vc, .int .i64 rs]
  have hb3 := bt (bt HB1.out.1 hb2) (heap1 w2 (.cells #[.slice VK mx vc, .int .i64 rs] 85))
  have hI3 := hI2.below (heap1 w2 (.cells #[.slice VK mx vc, .int .i64 rs] 85))
  have H3 := Lib.hid (And.intro hB3 (And.intro hN3 (And.intro hS3 (And.intro hb3 (And.intro hI3 hmx)))))
  clear hI2 hb2 hmx hB3 hN3 hS3 hb3 hI3
  cases okb with
  | false =>
    go_upto_region 3 with (fail)
    go_quiet (fail)
    go_wp2
    go_ret
    exact ⟨congrArg (fun z => Ending.returned (Value.bool z)) (show false = R by rw [HR.out]; rfl), Tk.below_drewN H3.out.2.2.2.1 _⟩
  | true =>
    obtain ⟨yx, hyx⟩ : ∃ yx, yx = decide (ys = xs) := ⟨_, rfl⟩
    have HYX := Lib.hid hyx
    clear hyx
    go_upto_region 3 with (fail)
    refine wp_region_held (S := fun w' => Below ({ w2.alloc (.cells #[.slice VK mx vc, .int .i64 rs] 85) with drawn := (w2.alloc (.cells #[.slice VK mx vc, .int .i64 rs] 85)).drawn + 1 } : World).heap.size ({ w2.alloc (.cells #[.slice VK mx vc, .int .i64 rs] 85) with drawn := (w2.alloc (.cells #[.slice VK mx vc, .int .i64 rs] 85)).drawn + 1 } : World) w') (by kernel_rfl) ?_
    have hB5 : Bx ({ w2.alloc (.cells #[.slice VK mx vc, .int .i64 rs] 85) with drawn := (w2.alloc (.cells #[.slice VK mx vc, .int .i64 rs] 85)).drawn + 1 } : World) w.heap.size 59 [.slice (some ⟨bA, off, none⟩) n c, .slice O n co, .map (some bd), .map (some bp)] := H3.out.1
    have hN5 : Bx ({ w2.alloc (.cells #[.slice VK mx vc, .int .i64 rs] 85) with drawn := (w2.alloc (.cells #[.slice VK mx vc, .int .i64 rs] 85)).drawn + 1 } : World) (w.heap.size + 1) 55 [.int .i64 kd, .int .i64 nn, .int .i64 pl, .string tx, .slice (some ⟨bk, ok, none⟩) m cK] := H3.out.2.1
    have hS5 : Bx ({ w2.alloc (.cells #[.slice VK mx vc, .int .i64 rs] 85) with drawn := (w2.alloc (.cells #[.slice VK mx vc, .int .i64 rs] 85)).drawn + 1 } : World) w2.heap.size 85 [.slice VK mx vc, .int .i64 rs] := H3.out.2.2.1
    have hb5 : Below w.heap.size w ({ w2.alloc (.cells #[.slice VK mx vc, .int .i64 rs] 85) with drawn := (w2.alloc (.cells #[.slice VK mx vc, .int .i64 rs] 85)).drawn + 1 } : World) := bdrew H3.out.2.2.2.1
    have hI5 : Ints ({ w2.alloc (.cells #[.slice VK mx vc, .int .i64 rs] 85) with drawn := (w2.alloc (.cells #[.slice VK mx vc, .int .i64 rs] 85)).drawn + 1 } : World) VK xs := H3.out.2.2.2.2.1
    have hmx := H3.out.2.2.2.2.2
    generalize ({ w2.alloc (.cells #[.slice VK mx vc, .int .i64 rs] 85) with drawn := (w2.alloc (.cells #[.slice VK mx vc, .int .i64 rs] 85)).drawn + 1 } : World) = W5 at *
    have hS := Below.refl W5.heap.size W5
    obtain ⟨ok2, hok2⟩ : ∃ ok2, (if cK = 1 then ok else ok + 1) = ok2 := ⟨_, rfl⟩
    have hKs : Ints W5 (some ⟨bk, ok2, none⟩) ks := fun h0 => ⟨bk, _, rfl, Nat.lt_of_lt_of_le HM.out.2.2.1 hb5.size, fun j hj => by
      have h2 : cK ≠ 1 := HM.out.2.1 (by have := HM.out.1; omega)
      rw [if_neg h2] at hok2
      rw [← hok2, show ok + 1 + j = ok + (j + 1) by omega]
      exact (hb5.cell (p := ⟨bk, ok + (j + 1), none⟩) HM.out.2.2.1).trans (HM.out.2.2.2 j hj)⟩
    have h1m : 1 ≤ m := by have := HM.out.1; omega
    have hmk : m - 1 = ks.length := by have := HM.out.1; omega
    refine hpu 0 (.bool true) (by kernel_rfl) rfl rfl (fun _ _ _ h => h) rfl (y_move rfl rfl) hS ?_
    simp only [ap]
    refine hpu 1 (.bool false) (by kernel_rfl) rfl rfl (fun _ _ _ h => h) rfl (y_not (b := true) rfl rfl) hS ?_
    simp only [ap]
    refine hpu 2 (.bool false) (by kernel_rfl) rfl rfl (fun _ _ _ h => h) rfl (y_move rfl rfl) hS ?_
    simp only [ap]
    refine hpu 3 (.agg #[.slice (some ⟨bA, off, none⟩) n c, .slice O n co, .map (some bd), .map (some bp)]) (by kernel_rfl) rfl rfl (fun _ _ _ h => h) rfl (y_load rfl rfl (fun w' q => run_load83 (hB5.below q hB5.lt))) hS ?_
    simp only [ap]
    refine hpu 4 (.pointer (some ⟨w.heap.size + 1, 4, none⟩)) (by kernel_rfl) rfl rfl (fun _ _ _ h => h) rfl (y_field rfl rfl (run_field37_4b _)) hS ?_
    simp only [ap]
    refine hpu 5 (.slice (some ⟨bk, ok, none⟩) m cK) (by kernel_rfl) rfl rfl (fun _ _ _ h => h) rfl (y_load rfl rfl (fun w' q => run_load35b (((hN5.below q hN5.lt).cell 4).trans rfl))) hS ?_
    simp only [ap]
    refine hpu 6 (.slice (some ⟨bk, ok2, none⟩) (m - 1) (cK - 1)) (by kernel_rfl) rfl rfl (fun _ _ _ h => h) rfl (y_slice1 rfl rfl (fun w' => by have q := run_slice35 bk ok m cK h1m w'; rw [hok2] at q; exact q)) hS ?_
    simp only [ap]
    refine hpu 8 (.pointer (some ⟨w2.heap.size, 0, none⟩)) (by kernel_rfl) rfl rfl (fun _ _ _ h => h) rfl (y_field rfl rfl (run_field139_0 _)) hS ?_
    simp only [ap]
    refine hpu 9 (.slice VK mx vc) (by kernel_rfl) rfl rfl (fun _ _ _ h => h) rfl (y_load rfl rfl (fun w' q => run_load139s (((hS5.below q hS5.lt).cell 0).trans rfl))) hS ?_
    simp only [ap]
    refine h_callx 7 ({ dst := some 26, op := Op.call { callee := Callee.value (Operand.func 70), args := #[Operand.tmp 22, Operand.tmp 25], argTypes := #[59, 25] }, type := 25, pos := "faults.go:121", after := #[{ on := 3, ground := Ground.data }, { on := 6, ground := Ground.data }, { on := 2, ground := Ground.chain }, { on := 2, ground := Ground.guard }], guard := some (2, false) } : Oper) (args := #[.agg #[.slice (some ⟨bA, off, none⟩) n c, .slice O n co, .map (some bd), .map (some bp)], .slice (some ⟨bk, ok2, none⟩) (m - 1) (cK - 1)]) own257 rfl rfl (by kernel_rfl) rfl rfl (HT.out W5 hb5 _ _ _ hKs hmk) ?_
    rintro e w6 ⟨YK, yc, rfl, hI6, hb6⟩
    refine .inr ⟨_, rfl, hb6, ?_⟩
    simp only [Act.put, List.setIfInBounds_toArray, List.set_cons_zero, List.set_cons_succ]
    obtain ⟨my, hmy⟩ : ∃ my, my = ys.length := ⟨_, rfl⟩
    rw [← hmy]
    refine h_callx 10 ({ dst := some 29, op := Op.call { callee := Callee.value (Operand.func 61), args := #[Operand.tmp 26, Operand.tmp 28], argTypes := #[25, 25] }, type := 4, pos := "faults.go:121", after := #[{ on := 7, ground := Ground.data }, { on := 9, ground := Ground.data }, { on := 7, ground := Ground.chain }, { on := 2, ground := Ground.guard }], guard := some (2, false) } : Oper) (args := #[.slice YK my yc, .slice VK mx vc]) own137 rfl rfl (by kernel_rfl) rfl rfl (by have q := ints_eq YK VK my mx yc vc ys xs w6 hI6 (hI5.below hb6) hmy hmx (by rw [hmy]; exact HYL.out _ rfl); rw [← HYX.out] at q; exact q) ?_
    rintro e w7 ⟨rfl, hb7⟩
    have hS := bt hb6 hb7
    refine .inr ⟨_, rfl, hS, ?_⟩
    simp only [Act.put, List.setIfInBounds_toArray, List.set_cons_zero, List.set_cons_succ]
    refine hpu 11 (.bool (!yx)) (by kernel_rfl) rfl rfl (fun _ _ _ h => h) rfl (y_not (b := yx) rfl rfl) hS ?_
    simp only [ap]
    refine hpu 12 (.bool (!yx)) (by kernel_rfl) rfl rfl (fun _ _ _ h => h) rfl (y_pickF rfl rfl rfl) hS ?_
    simp only [ap]
    refine wpAnyH_done (by kernel_rfl) ?_ _
    have H7 := Lib.hid (And.intro (hB5.below hS hB5.lt) (And.intro (hN5.below hS hN5.lt) (And.intro (hS5.below hS hS5.lt) (bt hb5 hS))))
    clear hok2 hB5 hN5 hS5 hb5 hI5 hmx hKs hI6 hb6 hb7 hS hmk h1m hmy
    cases yx with
    | false =>
      go_wp2
      go_ret
      exact ⟨congrArg (fun z => Ending.returned (Value.bool z)) (show false = R by rw [HR.out, ← HYX.out]; rfl), H7.out.2.2.2⟩
    | true =>
      have n3 := (H7.out.2.1.cell 3).trans rfl
      by_cases htx : tx = ⟨#[]⟩
      · subst htx
        go_upto_region 5 with (fail)
        go_quiet (fail)
        go_wp2
        go_ret
        exact ⟨congrArg (fun z => Ending.returned (Value.bool z)) (show true = R by rw [HR.out, ← HYX.out]; simp), Tk.below_drewN H7.out.2.2.2 _⟩
      · have hte : (tx.toList == []) = false := lst_ne htx
        have HVR := Lib.hid (show (vt == rs) = R by rw [HR.out, ← HYX.out, decide_eq_false htx, Bool.eq_iff_iff]; simp)
        have c0 := (H7.out.1.cell 0).trans rfl
        have c1 := (H7.out.1.cell 1).trans rfl
        have c2 := (H7.out.1.cell 2).trans rfl
        have c3 := (H7.out.1.cell 3).trans rfl
        have s1 := (H7.out.2.2.1.cell 1).trans rfl
        have m3 := cell_regrown n3
        have d0 := cell_regrown c0
        have d1 := cell_regrown c1
        have d2 := cell_regrown c2
        have d3 := cell_regrown c3
        have t1 := cell_regrown s1
        have cq : ∀ d os, Calls Try.prog 43 #[.agg #[.slice (some ⟨bA, off, none⟩) n c, .slice O n co, .map (some bd), .map (some bp)], .int .i64 (p : Int)] (grow (redrawn w7 d) os) fun e w'' => e = .returned (.int .i64 vt) ∧ ∃ p : Regrown, w'' = grow (redrawn w7 p.d) p.os := fun d os => Calls.regrown_of (HV.out _ (bt H7.out.2.2.2 (below_regrown w7 d os)))
        clear htx n3 c0 c1 c2 c3 s1
        go_wp2
        refine wp_region_quiet_below (by kernel_rfl) (by kernel_rfl) ?_
        repeat (go_big_quiet_step (first | exact cq _ _))
        refine wpQuiet_nil ?_
        intro _ hw'
        obtain ⟨⟨dq, osq⟩, hw''⟩ := hw'
        subst hw''
        have hbq := below_regrown w7 dq osq
        generalize grow (redrawn w7 dq) osq = w8 at *
        have HBQ := Lib.hid (bt H7.out.2.2.2 hbq)
        clear cq hbq
        go_wp2
        go_ret
        exact ⟨congrArg (fun z => Ending.returned (Value.bool z)) HVR.out, HBQ.out⟩
end
end Go.Proofs.Ytignojhijmamhaa.Ty
