/- PROVED here: the contract of Over. No condition but those in each theorem's own head. -/
import Derived.Test.YtcnmkmdedeiffaaI
namespace Go.Proofs.Ytcnmkmdedeiffaa
open Go Go.RowKit

structure OvI (w : World) (m : Nat) (nv : List Value) (ts : List Tr) (i : Nat) (v : Value) (ls : List AN) (wr : World) : Prop where
  x : Bx wr w.heap.size 24 nv
  r : Bx wr (w.heap.size + 1) 30 [.slice none 0 0, .int .i64 0]
  g : Ib wr (w.heap.size + 1 + 1) m (fun j => if j < i then rtF ts j else 0)
  o : wr.ownsRow (w.heap.size + 3) 24 5 v ls.length (fl ls)
  a : Al (w.heap.size + 3) wr ls
  e : ls.map AN.nd = ovA (ts.take i)
  b : Below w.heap.size w wr
theorem OvI.put {w : World} {m : Nat} {nv : List Value} {ts : List Tr} {i : Nat} {v : Value} {ls : List AN} {wr : World} (h : OvI w m nv ts i v ls wr) (hi : i < ts.length) {x : Int} (hx : x = rtF ts i) :
    Bx (wr.setCell ⟨w.heap.size + 1 + 1, i, none⟩ (.int .i64 x)) w.heap.size 24 nv ∧ Bx (wr.setCell ⟨w.heap.size + 1 + 1, i, none⟩ (.int .i64 x)) (w.heap.size + 1) 30 [.slice none 0 0, .int .i64 0] ∧
    Ib (wr.setCell ⟨w.heap.size + 1 + 1, i, none⟩ (.int .i64 x)) (w.heap.size + 1 + 1) m (fun j => if j < i + 1 then rtF ts j else 0) ∧ (wr.setCell ⟨w.heap.size + 1 + 1, i, none⟩ (.int .i64 x)).ownsRow (w.heap.size + 3) 24 5 v ls.length (fl ls) ∧
    Al (w.heap.size + 3) (wr.setCell ⟨w.heap.size + 1 + 1, i, none⟩ (.int .i64 x)) ls ∧ Below w.heap.size w (wr.setCell ⟨w.heap.size + 1 + 1, i, none⟩ (.int .i64 x)) := by
  refine ⟨h.x.far (by show w.heap.size ≠ w.heap.size + 1 + 1; omega) _, h.r.far (by show w.heap.size + 1 ≠ w.heap.size + 1 + 1; omega) _, (h.g.set_ i x).congr fun j _ => ?_, own_set h.o (by omega), al_set h.a (by omega), h.b.setCell (p := ⟨w.heap.size + 1 + 1, i, none⟩) (by show _ ≤ w.heap.size + 1 + 1; omega) _⟩
  by_cases e : j = i
  · subst e; rw [if_pos rfl, if_pos (by omega), hx]
  · rw [if_neg e]
    by_cases e2 : j < i
    · rw [if_pos e2, if_pos (by omega)]
    · rw [if_neg e2, if_neg (by omega)]
theorem OvI.alloc {w : World} {m : Nat} {nv : List Value} {ts : List Tr} {i : Nat} {v : Value} {ls : List AN} {wr : World} (h : OvI w m nv ts i v ls wr) (o : Obj) : OvI w m nv ts i v ls (wr.alloc o) :=
  ⟨h.x.alloc _, h.r.alloc _, h.g.alloc _, own_below h.o (heap1 _ _), h.a.alloc _, h.e, h.b.alloc h.b.size _⟩
theorem own_cells {base g n : Nat} {ms : List AN} {w : World} (h : w.ownsRow base 24 5 (.slice (some ⟨g, 0, none⟩) n n) n (fl ms)) : ∀ j u, (fl ms)[j]? = some u → w.cell? ((⟨g, 0, none⟩ : Addr).add j) = some u := fun j u hj => by
  rcases h.2 with ⟨e, _⟩ | ⟨g', cap, cur, e, _, h3, _, _, _, ht⟩
  · cases e
  · cases e
    have hl := h.1
    have hj2 : j < (fl ms).length := (List.getElem?_eq_some_iff.1 hj).1
    rw [show (⟨g, 0, none⟩ : Addr).add j = ⟨g, j, none⟩ by simp [Addr.add]; omega, cell_of_row w g j cur 24 (0, 0) h3]
    rw [← ht, List.getElem?_take, if_pos (by omega)] at hj
    simpa using hj
set_option maxRecDepth 100000 in
set_option maxHeartbeats 1500000 in
theorem over_any (kd nn pl : Int) (tx : ByteArray) (K0 : Option Addr) (n0 c0 : Nat) (A : Option Addr) (m c : Nat) (ts : List Tr) (w : World) (hT : Trs w A ts) (hm : m = ts.length) (hm2 : m ≤ 4000) (ht : ∀ t ∈ ts, t.1.length ≤ 4000 ∧ ∀ x ∈ t.1, x.ks.length ≤ 4000) (hs : (ovA ts).length ≤ 10000000) (hs2 : ∀ i, (ovA (ts.take i)).length ≤ 10000000) :
    Calls Try.prog 10 #[.agg #[.int .i64 kd, .int .i64 nn, .int .i64 pl, .string tx, .slice K0 n0 c0], .slice A m c] w (TPost (ovL kd nn pl tx ts) ((ovA ts).length : Int) w) := by
  obtain ⟨i0, hi, hz0, hz1, hz2⟩ := info_parts info24
  have e0 : ∀ (w' : World) (o : Obj), (w'.alloc o).heap.size = w'.heap.size + 1 := fun w' o => World.size_alloc w' o
  have HT := Lib.hid hT
  have HM := Lib.hid hm
  have HTS := Lib.hid ht
  have HS := Lib.hid hs
  have HS2 := Lib.hid hs2
  clear hT hm ht hs hs2
  have hmk := fun w' => make22 m (by omega) w'
  go_enter Try.func10, Try.ntmps10
  go_wp2
  clear hmk
  go_loopw [5, 14] (fun v i wr => ∃ (k : Nat) (ls : List AN), k ≤ m ∧ i = .int .i64 (k : Int) ∧ OvI w m [.int .i64 kd, .int .i64 nn, .int .i64 pl, .string tx, .slice K0 n0 c0] ts k v ls wr) (fun _ i _ => m - (intOf i).toNat)
  case atStart =>
    refine ⟨0, [], Nat.zero_le _, rfl, ((Bx.new w 24 _).alloc _).alloc _, ?_, ?_, World.ownsRow_nil _ _ _ _, fun x hx => (by cases hx), rfl, ((heap1 w _).alloc (by rw [e0]; omega) _).alloc (by rw [e0, e0]; omega) _⟩
    · have := (Bx.new (w.alloc (.cells #[.int .i64 kd, .int .i64 nn, .int .i64 pl, .string tx, .slice K0 n0 c0] 24)) 30 [.slice none 0 0, .int .i64 0]).alloc (.cells (mkI m fun _ => 0) 3)
      rw [e0] at this; exact this
    · have := World.alloc_heap_new ((w.alloc (.cells #[.int .i64 kd, .int .i64 nn, .int .i64 pl, .string tx, .slice K0 n0 c0] 24)).alloc (.cells #[.slice none 0 0, .int .i64 0] 30)) (.cells (mkI m fun _ => 0) 3)
      rw [e0, e0] at this
      exact (show Ib _ _ _ _ from this).congr fun i _ => (if_neg (Nat.not_lt_zero i)).symm
  case round =>
    obtain ⟨k, ls, hk, rfl, hO⟩ := hrel
    obtain ⟨V, cV, rfl⟩ := own_slice hO.o
    have HLEN := Lib.hid (show ls.length = (ovA (ts.take k)).length by rw [← hO.e, List.length_map])
    have hlb : ls.length ≤ 10000000 := by rw [HLEN.out]; exact HS2.out k
    obtain ⟨q, hq⟩ : ∃ q, q = ls.length := ⟨_, rfl⟩
    have HQ := Lib.hid hq
    rw [← hq] at hlb ⊢
    clear hq
    by_cases hlt : k < m
    · have hlz : (k : Int) < (m : Int) := by omega
      have hkt : k < ts.length := by rw [← HM.out]; exact hlt
      obtain ⟨bA, off, rfl, hbl, hc⟩ := HT.out (by omega)
      obtain ⟨K, ck, d0', d1', hN, hck⟩ := hc k hkt
      have d0 := (hO.b.cell (p := ⟨bA, off + k * 2, none⟩) hbl).trans d0'
      have d1 := (hO.b.cell (p := ⟨bA, off + k * 2 + 1, none⟩) hbl).trans d1'
      clear d0' d1'
      obtain ⟨ht1, ht2⟩ := HTS.out _ (List.getElem_mem hkt)
      have HTK := Lib.hid (show ts.getD k ([], 0) = ts[k] by simp [List.getD, hkt])
      have HTT := Lib.hid (show ts.take (k + 1) = ts.take k ++ [ts[k]] from List.take_succ_eq_append_getElem hkt)
      clear hc hck
      generalize ts[k] = t at *
      obtain ⟨tn, tr⟩ := t
      dsimp only at d0 d1 hN ht1 ht2
      have HRT := Lib.hid (show wrap64 ((q : Int) + tr) = rtF ts k by unfold rtF; rw [HTK.out, HQ.out, HLEN.out])
      have hcg := hO.g.cell hlt
      have hfg := hO.g.frozen k
      have HP := Lib.hid (hO.put hkt HRT.out)
      have HE := Lib.hid hO.e
      have HN := Lib.hid hN
      have hwz : w.heap.size + 1 + 1 < wr.heap.size := hO.g.lt
      clear hO hN
      go_upto_region 7 with (fail)
      refine gen_world (fun W => Bx W wr.heap.size 30 [.slice K tn.length ck, .int .i64 tr] ∧ Bx W w.heap.size 24 [.int .i64 kd, .int .i64 nn, .int .i64 pl, .string tx, .slice K0 n0 c0] ∧ Bx W (w.heap.size + 1) 30 [.slice none 0 0, .int .i64 0] ∧
        Ib W (w.heap.size + 1 + 1) m (fun j => if j < k + 1 then rtF ts j else 0) ∧ W.ownsRow (w.heap.size + 3) 24 5 (.slice V ls.length cV) ls.length (fl ls) ∧ Al (w.heap.size + 3) W ls ∧ Below w.heap.size w W) ?_ ?_
      · obtain ⟨p1, p2, p3, p4, p5, p6⟩ := HP.out
        have := Bx.new (wr.setCell ⟨w.heap.size + 1 + 1, k, none⟩ (.int .i64 (wrap64 ((q : Int) + tr)))) 30 [.slice K tn.length ck, .int .i64 tr]
        rw [World.size_setCell] at this
        exact ⟨this, p1.alloc _, p2.alloc _, p3.alloc _, own_below p4 (heap1 _ _), p5.alloc _, p6.alloc p6.size _⟩
      clear HP hcg hfg d0 d1
      rintro W ⟨hX1, hx1, hr1, hg1, ho1, ha1, hb1⟩
      have hN1 := HN.out.below hb1
      have hc0 := hX1.cell 0
      simp only [List.getElem?_cons_zero] at hc0
      have HMV := Lib.hid (moved_any K ck tn.length tn (q : Int) W hN1 rfl (by omega) ht2)
      clear hN1
      go_wp2_with (go_at_call 26; refine HMV.out.mono ?_)
      clear HMV
      rintro e w3 ⟨ms, rfl, hom, hmm, ham, hb3⟩
      have hml : ms.length = tn.length := by have := congrArg List.length hmm; simpa using this
      have ho3 := own_below ho1 hb3
      rw [← HQ.out] at ho3
      go_wp2_with (first
        | (at_builtin; refine wpList_append_own _ rfl _ _ 28 rfl (w.heap.size + 3) 24 i0 (.agg #[.int .i64 0, .int .i64 0, .int .i64 0, .string ⟨#[]⟩, .slice none 0 0]) 5 64 Try.underlying28 hi hz0 hz1 hz2 rfl (by decide) _ _ _ rfl ho3 ⟨W.heap.size, 0, none⟩ tn.length tn.length (fl ms) rfl (by rw [fl_len, hml]) (own_cells hom) (fl_one ms) ?c3 ?c4 ?c5 ?_))
      case c3 => unfold maxLen; omega
      case c4 => omega
      case c5 => have := hb3.size; have := hX1.lt; omega
      intro v' w4 hown4 hgrow4 _
      have hzW : w.heap.size + 3 ≤ W.heap.size := by have := hX1.lt; omega
      have hnb : ∀ b, b < w.heap.size + 3 → some b ≠ (Value.slice V q cV).ownBlock := fun b hb e => by have := (ho3.lt b e.symm).1; omega
      have hfin : OvI w m [.int .i64 kd, .int .i64 nn, .int .i64 pl, .string tx, .slice K0 n0 c0] ts (k + 1) v' (ls ++ ms) w4 := by
        refine ⟨(hx1.below hb3 hx1.lt).grown hgrow4 (hnb _ (by omega)), (hr1.below hb3 hr1.lt).grown hgrow4 (hnb _ (by omega)), (hg1.below hb3 hg1.lt).grown hgrow4 (hnb _ (by omega)), ?_, ((ha1.below hb3).grown hgrow4 (own_row24 ho3)).app ((ham.mono hzW).grown hgrow4 (own_row24 ho3)), ?_, ?_⟩
        · rw [List.length_append, fl_app, ← HQ.out, hml]; exact hown4
        · rw [List.map_append, HE.out, hmm, HTT.out, ovA_snoc]
          have : ((ovA (ts.take k)).length : Int) = (q : Int) := by rw [HQ.out, HLEN.out]
          rw [this]
        · exact (hb1.trans (hb3.mono hb1.size)).grown hgrow4 (by have := hb1.size; have := hb3.size; omega) (fun b hb => by have := (ho3.lt b hb).1; omega)
      have HF := Lib.hid hfin
      clear hfin hown4 hgrow4 ho3 hnb hb3 ham hom hmm ha1 ho1 hg1 hr1 hx1 hX1 hc0
      go_wp2
      go_roundw
      case rel => exact ⟨k + 1, ls ++ ms, by omega, by go_num, HF.out⟩
      case measure => simp [intOf]; omega
    · obtain rfl : k = m := by omega
      have hlz : ¬ (k : Int) < (k : Int) := by omega
      have hcx := hO.x.cell 4
      have hfx := hO.x.frozen 4
      simp only [List.getElem?_cons_zero, List.getElem?_cons_succ] at hcx
      have HO := Lib.hid hO
      clear hO
      go_upto_region 10 with (fail)
      refine gen_world (fun W => Bx W w.heap.size 24 [.int .i64 kd, .int .i64 nn, .int .i64 pl, .string tx, .slice (some ⟨w.heap.size + 1 + 1, 0, none⟩) k k] ∧ Bx W (w.heap.size + 1) 30 [.slice none 0 0, .int .i64 0] ∧
        Ib W (w.heap.size + 1 + 1) k (fun j => if j < k then rtF ts j else 0) ∧ W.ownsRow (w.heap.size + 3) 24 5 (.slice V ls.length cV) ls.length (fl ls) ∧ Al (w.heap.size + 3) W ls ∧ Below w.heap.size w W) ?_ ?_
      · have h := HO.out
        exact ⟨h.x.set_ 4 _, h.r.far (by show w.heap.size + 1 ≠ w.heap.size; omega) _, h.g.far (by show w.heap.size + 1 + 1 ≠ w.heap.size; omega) _, own_set h.o (by omega), al_set h.a (by omega), h.b.setCell (p := ⟨w.heap.size, 4, none⟩) (Nat.le_refl _) _⟩
      have HE := Lib.hid HO.out.e
      clear HO hcx hfx
      rintro W ⟨hx1, hr1, hg1, ho1, ha1, hb1⟩
      have b0 := hx1.cell 0
      have b1 := hx1.cell 1
      have b2 := hx1.cell 2
      have b3 := hx1.cell 3
      have b4 := hx1.cell 4
      simp only [List.getElem?_cons_zero, List.getElem?_cons_succ] at b0 b1 b2 b3 b4
      rw [← HQ.out] at ho1
      have hzW : w.heap.size + 3 ≤ W.heap.size := by have := hg1.lt; omega
      have HH := Lib.hid (And.intro hr1 (And.intro hg1 (And.intro ho1 (And.intro ha1 hb1))))
      clear hx1 hr1 hg1 ha1 hb1
      go_wp2_with (first
        | (at_builtin; refine wpList_append_own _ rfl _ _ 28 rfl (w.heap.size + 3) 24 i0 (.agg #[.int .i64 0, .int .i64 0, .int .i64 0, .string ⟨#[]⟩, .slice none 0 0]) 5 64 Try.underlying28 hi hz0 hz1 hz2 rfl (by decide) _ _ _ rfl (own_below ho1 (heap1 W _)) ⟨W.heap.size, 0, none⟩ 1 1 [.int .i64 kd, .int .i64 nn, .int .i64 pl, .string tx, .slice (some ⟨w.heap.size + 1 + 1, 0, none⟩) k k] rfl rfl ?c1 ?c2 ?c3 ?c4 ?c5 ?_))
      case c2 => exact ⟨rfl, rfl, rfl, rfl, rfl⟩
      case c3 => unfold maxLen; omega
      case c4 => omega
      case c5 => omega
      intro v' w4 hown4 hgrow4 _
      obtain ⟨A', c', rfl⟩ := own_slice hown4
      obtain ⟨hr1, hg1, _, ha1, hb1⟩ := HH.out
      have hoA := own_below ho1 (heap1 W (.cells #[.int .i64 kd, .int .i64 nn, .int .i64 pl, .string tx, .slice (some ⟨w.heap.size + 1 + 1, 0, none⟩) k k] 24))
      have hnb : ∀ b, b < w.heap.size + 3 → some b ≠ (Value.slice V q cV).ownBlock := fun b hb e => by have := (hoA.lt b e.symm).1; omega
      have hr4 := (hr1.alloc _).grown hgrow4 (hnb _ (by omega))
      have hg4 := (hg1.alloc _).grown hgrow4 (hnb _ (by omega))
      have ha4 := (ha1.alloc _).grown hgrow4 (own_row24 hoA)
      have hb4 := (hb1.alloc hb1.size _).grown hgrow4 (by rw [e0]; omega) (fun b hb => by have := (hoA.lt b hb).1; omega)
      have hcr0 := hr4.cell 0
      have hcr1 := hr4.cell 1
      have hfr0 := hr4.frozen 0
      have hfr1 := hr4.frozen 1
      simp only [List.getElem?_cons_zero, List.getElem?_cons_succ] at hcr0 hcr1
      have HR4 := Lib.hid hr4
      have HG4 := Lib.hid hg4
      have HA4 := Lib.hid ha4
      have HB4 := Lib.hid hb4
      have HO4 := Lib.hid hown4
      clear hr1 hg1 ha1 hb1 hoA hnb hr4 hg4 ha4 hb4 hown4 hgrow4 ho1 HH
      go_wp2
      have hE3 := (HR4.out.set_ 0 (.slice A' (q + 1) c')).set_ 1 (.int .i64 (q : Int))
      have ho3 := own_set (i := 1) (u := .int .i64 (q : Int)) (own_set (i := 0) (u := .slice A' (q + 1) c') HO4.out (show w.heap.size + 1 < w.heap.size + 3 by omega)) (show w.heap.size + 1 < w.heap.size + 3 by omega)
      have ha3 := al_set (i := 1) (u := .int .i64 (q : Int)) (al_set (i := 0) (u := .slice A' (q + 1) c') HA4.out (show w.heap.size + 1 < w.heap.size + 3 by omega)) (show w.heap.size + 1 < w.heap.size + 3 by omega)
      have hg3 := (HG4.out.far (p := ⟨w.heap.size + 1, 0, none⟩) (by show w.heap.size + 1 + 1 ≠ w.heap.size + 1; omega) (.slice A' (q + 1) c')).far (p := ⟨w.heap.size + 1, 1, none⟩) (by show w.heap.size + 1 + 1 ≠ w.heap.size + 1; omega) (.int .i64 (q : Int))
      have hb3 := (HB4.out.setCell (p := ⟨w.heap.size + 1, 0, none⟩) (by show _ ≤ w.heap.size + 1; omega) (.slice A' (q + 1) c')).setCell (p := ⟨w.heap.size + 1, 1, none⟩) (by show _ ≤ w.heap.size + 1; omega) (.int .i64 (q : Int))
      generalize (w4.setCell ⟨w.heap.size + 1, 0, none⟩ (.slice A' (q + 1) c')).setCell ⟨w.heap.size + 1, 1, none⟩ (.int .i64 (q : Int)) = W3 at *
      have hr0 := hE3.cell 0
      have hr1 := hE3.cell 1
      simp only [List.set_cons_zero, List.set_cons_succ, List.getElem?_cons_zero, List.getElem?_cons_succ] at hr0 hr1
      have hrl : (rts ts).length = k := by unfold rts; rw [List.length_map, List.length_range]; exact HM.out.symm
      have hov : ls.map AN.nd = ovA ts := by rw [HE.out, List.take_of_length_le (by rw [← HM.out]; omega)]
      refine bodyPost_ret (v := .agg #[.slice A' (q + 1) c', .int .i64 (q : Int)]) (by simp [results, Try.f10, go_sem, hr0, hr1]) rfl (tpost_own (base := w.heap.size) (ls := ls ++ [⟨⟨kd, nn, pl, tx, rts ts⟩, w.heap.size + 1 + 1⟩]) ?_ ?_ ?_ hb3 ?_)
      · rw [fl_app]
        refine own_mono (base := w.heap.size + 3) ?_ (by omega)
        rw [show fl [⟨⟨kd, nn, pl, tx, rts ts⟩, w.heap.size + 1 + 1⟩] = [.int .i64 kd, .int .i64 nn, .int .i64 pl, .string tx, .slice (some ⟨w.heap.size + 1 + 1, 0, none⟩) k k] by show AN.cv _ ++ [] = _; unfold AN.cv; rw [hrl]; rfl]
        exact ho3
      · refine (ha3.mono (by omega)).app fun x hx => ?_
        obtain rfl : x = ⟨⟨kd, nn, pl, tx, rts ts⟩, w.heap.size + 1 + 1⟩ := by simpa using hx
        refine ⟨by show w.heap.size ≤ w.heap.size + 1 + 1; omega, ?_⟩
        show Ib W3 (w.heap.size + 1 + 1) (rts ts).length (fun i => (rts ts).getD i 0)
        rw [hrl]
        refine hg3.congr fun i hi => ?_
        have h7 : i < ts.length := by rw [← HM.out]; exact hi
        rw [if_pos hi]; unfold rts; simp [List.getD, h7]
      · rw [List.map_append, hov]; rfl
      · rw [HQ.out, HLEN.out, List.take_of_length_le (by rw [← HM.out]; omega)]
end Go.Proofs.Ytcnmkmdedeiffaa
