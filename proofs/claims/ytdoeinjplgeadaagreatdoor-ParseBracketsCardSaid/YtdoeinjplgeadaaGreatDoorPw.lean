/- PROVED here: contracts of ended, block, call, out, choice and attempt. No condition but those in each theorem's own head. -/
import Derived.Test.YtdoeinjplgeadaaGreatDoorPv
namespace Go.Proofs.YtdoeinjplgeadaaGreatDoor
open Go Go.RowKit
open Tr (Bx heap1 bt gen_world ret_int ret_bool cell_same)

/-- a row of one place, new -/
theorem Rw.one {X : Nat → Prop} {w0 w : World} {base g c : Nat} {A : Option Addr} {ts : List Tok} {V0 V : Value} {s : St} (h : Pz X w base g A c ts V s) (f : Fo w0 w g V0 V) (hX0 : ∀ b, X b → b < w0.heap.size) (hb0 : base ≤ w0.heap.size) (n : Int) : Rw X w0 V0 (w.alloc (.cells #[.int .i64 n] 3)) base g A c ts V s (.slice (some ⟨w.heap.size, 0, none⟩) 1 1) [n] := by
  have hb := heap1 w (.cells #[.int .i64 n] 3)
  have hz := h.below hb
  obtain ⟨xs, h1, h2⟩ := h.nd.more (Y := fun b => w.heap.size = b) (fun b q => by omega)
  have hn : Nodes (w.alloc (.cells #[.int .i64 n] 3)) (fun b => X b ∨ (Value.slice (some ⟨w.heap.size, 0, none⟩) 1 1).ownBlock = some b) base V s.nd :=
    (Nodes.fr (g := g) ⟨xs, h1, h2⟩ (Fr.of hb) h.px.box h.gb).weak (fun b q => q.imp id (fun e => by simpa [Value.ownBlock] using e))
  refine ⟨⟨hz.px, hn, hz.hb, hz.gb, hz.hA, hz.hn, hz.h40, hz.ok, fun b q => q.elim (fun q => hz.hX b q) (fun e => ?_)⟩, ⟨rfl, .inr ⟨w.heap.size, 1, _, rfl, f.fr.size, World.alloc_heap_new _ _, Nat.le_refl _, by decide, rfl, rfl⟩⟩, f.trans (Fo.below hb), hX0, hb0⟩
  have e : w.heap.size = b := by simpa [Value.ownBlock] using e
  rw [World.size_alloc]; omega
/-- 'append(places, row...)' -/
theorem rw_appends {X X2 : Nat → Prop} {w0 w2 w : World} {base g c : Nat} {A : Option Addr} {ts : List Tok} {V0 V2 V : Value} {s : St} {v v2 : Value} {l l2 : List Int} {ops : Array Oper} {rest : List Oper} {o : Oper} {a : Act} {Q : Exit → Act → World → Prop} (hgd : o.guard = none) (p x : Operand)
    (ho : o.op = .call { callee := .builtin .append, args := #[p, x], argTypes := #[37, 37] }) (h : Rw X w0 V0 w base g A c ts V s v l) (h2 : Rw X2 w2 V2 w base g A c ts V s v2 l2) (hs : a.eval p = v) (hx : a.eval x = v2) (hlen : l.length + l2.length ≤ 1000000)
    (hk : ∀ v' w', Rw X w0 V0 w' base g A c ts V s v' (l ++ l2) → wpList Tryz.prog ops Q rest (a.put o.dst v') w') : wpList Tryz.prog ops Q (o :: rest) a w := by
  have hc := fun (b : Nat) (q : v2.ownBlock = some b) => h2.own.cells (g := b) q
  rcases h2.own.2 with ⟨e1, e2⟩ | ⟨b, cap, cur, e1, _⟩
  · obtain ⟨i0, hi, _, hz1, _⟩ := info_parts info3
    obtain rfl : l2 = [] := List.eq_nil_of_length_eq_zero e2
    refine wpList_append_own_none hgd p x 37 ho w0.heap.size 3 i0 1 Tryz.underlying37 hi v l.length (l.map (Value.int .i64)) hs h.own (by rw [hx, e1]) ?_
    have := hk v w (by rw [List.append_nil]; exact h)
    exact this
  · exact rw_append hgd p x ho h hs ⟨b, 0, none⟩ l2.length cap l2 (by rw [hx, e1]) rfl (hc b (by rw [e1]; rfl)) hlen hk
set_option maxRecDepth 100000 in
set_option maxHeartbeats 1500000 in
theorem ended_z {X : Nat → Prop} {w : World} {base g c : Nat} {A : Option Addr} {ts : List Tok} {V : Value} {s : St} (h : Pz X w base g A c ts V s) (x : Int) : Calls Tryz.prog 136 #[.pointer (some ⟨g, 0, none⟩), .int .i64 x] w (IPost X base g A c ts V w (endedM ts [x] s)) := by
  obtain ⟨R, HR⟩ : ∃ R, R = endedM ts [x] s := ⟨_, rfl⟩
  rw [← HR]
  unfold endedM at HR
  have HB := Lib.hid (expect_z h [59] (by decide))
  have HK := Lib.hid (And.intro HR trivial)
  generalize tokV (tkn ts s) = tv at *
  clear HR h
  go_enter Tryz.func136, Tryz.ntmps136
  go_wp2_with (go_at_call 71; refine (HB.out).mono ?_; rintro e w1 (⟨p, er, hr, rfl, hF⟩ | ⟨s1, hr1, rfl, hz1, hF1⟩) <;> first | replace hr1 := Lib.hid hr1 | replace hr := Lib.hid hr)
  · exact ⟨rfl, .inl ⟨p, er, Rs.step_no (HK.out.1) hr.out, rfl, hF⟩⟩
  · go_ret
    exact .inr ⟨x, s1, V, (Rs.step HK.out.1 hr1.out :), rfl, hz1, hF1⟩
set_option maxRecDepth 100000 in
set_option maxHeartbeats 1500000 in
theorem block_z {X : Nat → Prop} {w : World} {base g c : Nat} {A : Option Addr} {ts : List Tok} {V : Value} {s : St} {f : Nat} (hI : ∀ f', f' ≤ f → Rz ts (run ts f')) (h : Pz X w base g A c ts V s) (hne : blockM ts (run ts f) s ≠ .out) : Calls Tryz.prog 135 #[.pointer (some ⟨g, 0, none⟩)] w (IPost X base g A c ts V w (blockM ts (run ts f) s)) := by
  obtain ⟨R, HR⟩ : ∃ R, R = blockM ts (run ts f) s := ⟨_, rfl⟩
  rw [← HR] at hne ⊢
  unfold blockM at HR
  dsimp only at HR
  have hf := field36_2 (tkn ts s)
  have HB := Lib.hid (begin_z h [123] (by decide))
  have HS := Lib.hid (fun w' s1 (q : Pz X w' base g A c ts V s1) (hr : begM ts [123] s = .ok [] s1) => by
    have a := beg_op h.ok (by decide) h.px.nx hr
    have b := ((hI f (Nat.le_refl _)).z X w' base g A c V s1 q).2.2.2 ((tkn ts s).p : Int) (by omega) (by rw [← Rs.step HR hr]; exact hne)
    rw [← Rs.step HR hr] at b
    exact b)
  have HK := Lib.hid (And.intro HR trivial)
  generalize ((tkn ts s).p : Int) = p0 at *
  generalize tokV (tkn ts s) = tv at *
  clear HR h hne hI
  go_enter Tryz.func135, Tryz.ntmps135
  go_wp2_with (first | (go_at_call 77; refine (HB.out).mono ?_; rintro e w1 (⟨p, er, hr, rfl, hF⟩ | ⟨s1, hr1, rfl, hz1, hF1⟩) <;> first | replace hr1 := Lib.hid hr1 | replace hr := Lib.hid hr) | (go_at_call 78; refine (HS.out _ _ hz1 hr1.out).mono ?_; rintro e w9 (⟨p, er, hr, rfl, hF⟩ | ⟨x9, s9, V9, hr9, rfl, hz9, hF9⟩) <;> first | replace hr9 := Lib.hid hr9 | replace hr := Lib.hid hr))
  · exact ⟨rfl, .inl ⟨p, er, Rs.step_no (HK.out.1) hr.out, rfl, hF⟩⟩
  · exact ⟨rfl, .inl (np_after (hF1) (hr.out) hF)⟩
  · go_ret
    exact .inr ⟨x9, s9, V9, hr9.out, rfl, hz9, (hF1).trans hF9⟩
set_option maxRecDepth 100000 in
set_option maxHeartbeats 1500000 in
theorem call_z {X : Nat → Prop} {w : World} {base g c : Nat} {A : Option Addr} {ts : List Tok} {V : Value} {s : St} {f : Nat} (hI : ∀ f', f' ≤ f → Rz ts (run ts f')) (h : Pz X w base g A c ts V s) (tx : List UInt8) (pl : Int) (hne : callM ts (run ts f) tx pl s ≠ .out) : Calls Tryz.prog 137 #[.pointer (some ⟨g, 0, none⟩), .string (bs tx), .int .i64 pl] w (IPost X base g A c ts V w (callM ts (run ts f) tx pl s)) := by
  have hk : Nk s 0 (callM ts (run ts f) tx pl s) := (nk_call ts (run_nk ts f) s tx pl).weak (by omega)
  obtain ⟨R, HR⟩ : ∃ R, R = callM ts (run ts f) tx pl s := ⟨_, rfl⟩
  rw [← HR] at hk hne ⊢
  unfold callM at HR
  have HK := Lib.hid (And.intro HR (And.intro hne (And.intro hk (And.intro h.hn hI))))
  have HB := Lib.hid (expect_z h wCall (by decide))
  have H0 := Lib.hid h
  generalize tokV (tkn ts s) = tv at *
  have hmf : ∀ (fn : Fn) (first cap : Array Value) (w : World), (Instr.makeFunc fn first cap).run Tryz.prog w = .ok (.func fn first cap) w := fun _ _ _ _ => rfl
  clear HR hk hne hI h
  go_enter Tryz.func137, Tryz.ntmps137
  go_wp2_with (first | (go_at_call 71; refine (HB.out).mono ?_; rintro e w1 (⟨p, er, hr, rfl, hF⟩ | ⟨s1, hr1, rfl, hz1, hF1⟩) <;> first | replace hr1 := Lib.hid hr1 | replace hr := Lib.hid hr) | (go_at_call 156; refine (leaf_z hz1 19).mono ?_; rintro e w2 (⟨p, er, hr, rfl, hF⟩ | ⟨x2, s2, V2, hr2, rfl, hz2, hF2⟩) <;> first | replace hr2 := Lib.hid hr2 | replace hr := Lib.hid hr) | (go_at_call 74; refine (list_z HK.out.2.2.2.2 (Rw.one hz2 (hF1.trans hF2) H0.out.hX H0.out.hb x2).z (Rs.step_in (Rs.step (Rs.step (HK.out.1) hr1.out) hr2.out) HK.out.2.1)).mono ?_; rintro e w3 (⟨p, er, hr, rfl, hF⟩ | ⟨l3, s3, V3, v3, hr3, rfl, hw3, hl3⟩) <;> first | replace hr3 := Lib.hid hr3 | replace hr := Lib.hid hr) | (at_builtin; refine rw_appends rfl _ _ rfl ((Rw.one hz2 (hF1.trans hF2) H0.out.hX H0.out.hb x2).step hw3.pz hw3.fo) hw3 rfl rfl (by have := hw3.z.len; simp only [List.length_cons, List.length_nil]; omega) ?_; intro v4 w4 hw4; obtain ⟨K4, c4, rfl, _⟩ := hw4.kd) | (go_at_call 44; refine (add_z hw4.pz 13 0 pl tx none K4 0 0 _ c4 _ hw4.kds.1 rfl (Rs.step (Rs.step (Rs.step (HK.out.1) hr1.out) hr2.out) hr3.out :) HK.out.2.2.1 HK.out.2.2.2.1).mono ?_; rintro e w9 (⟨p, er, hr, rfl, hF⟩ | ⟨x9, s9, V9, hr9, rfl, hz9, hF9⟩) <;> first | replace hr9 := Lib.hid hr9 | replace hr := Lib.hid hr))
  · exact ⟨rfl, .inl ⟨p, er, Rs.step_no (HK.out.1) hr.out, rfl, hF⟩⟩
  · exact ⟨rfl, .inl (np_after (hF1) (Rs.step_no (Rs.step (HK.out.1) hr1.out) hr.out) hF)⟩
  · exact ⟨rfl, .inl (np_after (((hF1).trans (hF2)).trans (Fo.below (heap1 _ _))) (Rs.step_no (Rs.step (Rs.step (HK.out.1) hr1.out) hr2.out) hr.out) hF)⟩
  · exact ⟨rfl, .inl (np_after (hw4.fo) (hr.out) hF)⟩
  · go_ret
    exact .inr ⟨x9, s9, V9, hr9.out, rfl, hz9, (hw4.fo).trans hF9⟩
set_option maxRecDepth 100000 in
set_option maxHeartbeats 1500000 in
theorem out_z {X : Nat → Prop} {w : World} {base g c : Nat} {A : Option Addr} {ts : List Tok} {V : Value} {s : St} {f : Nat} (hI : ∀ f', f' ≤ f → Rz ts (run ts f')) (h : Pz X w base g A c ts V s) (hs : (tkn ts s).s ≠ []) (hne : outM ts (run ts f) s ≠ .out) : Calls Tryz.prog 133 #[.pointer (some ⟨g, 0, none⟩)] w (IPost X base g A c ts V w (outM ts (run ts f) s)) := by
  have hk : Nk s 0 (outM ts (run ts f) s) := nk_outM ts (run_nk ts f) s
  obtain ⟨R, HR⟩ : ∃ R, R = outM ts (run ts f) s := ⟨_, rfl⟩
  rw [← HR] at hk hne ⊢
  unfold outM at HR
  dsimp only at HR
  have HK := Lib.hid (And.intro HR (And.intro hne (And.intro hk (And.intro h.hn hI))))
  have HT := Lib.hid (take_z h (.inr hs))
  have hf := field36_2 (tkn ts s)
  have HA := Lib.hid (fun w' V' (s' : St) (q : Pz X w' base g A c ts V' s') (hsl : s'.nd.length + 1 ≤ s'.nx) x1 x2 => add_y2 q 10 0 ((tkn ts s).p : Int) [] none 0 0 x1 x2 hsl)
  generalize ((tkn ts s).p : Int) = p0 at *
  generalize tokV (tkn ts s) = tv at *
  clear HR hk hne hI h hs
  go_enter Tryz.func133, Tryz.ntmps133
  go_wp2_with (first | (go_at_call 69; refine (HT.out).mono ?_; rintro e w1 ⟨rfl, hz1, hF1⟩) | (go_at_call 156; refine (leaf_z hz1 18).mono ?_; rintro e w2 (⟨p, er, hr, rfl, hF⟩ | ⟨x2, s2, V2, hr2, rfl, hz2, hF2⟩) <;> first | replace hr2 := Lib.hid hr2 | replace hr := Lib.hid hr) | (go_at_call 66; refine (expr_z (HK.out.2.2.2.2 f (Nat.le_refl _)) hz2 (Rs.step_in (Rs.step (HK.out.1) hr2.out) HK.out.2.1)).mono ?_; rintro e w3 (⟨p, er, hr, rfl, hF⟩ | ⟨x3, s3, V3, hr3, rfl, hz3, hF3⟩) <;> first | replace hr3 := Lib.hid hr3 | replace hr := Lib.hid hr) | (go_at_call 44; refine (HA.out _ _ _ hz3 (by have a := ((nk_leaf ts _ _ _ _ hr2.out).1).1; have b := ((nk_expr (run_nk ts f) _ _ _ hr3.out).1).1; have c1 : (takeS s).nd = s.nd := rfl; have c2 : (takeS s).nx = s.nx + 1 := rfl; have d := HK.out.2.2.2.1; rw [c1, c2] at a; omega) x2 x3).mono ?_; rintro e w4 (⟨p, er, hr, rfl, hF⟩ | ⟨x4, s4, V4, hr4, rfl, hz4, hF4⟩) <;> first | replace hr4 := Lib.hid hr4 | replace hr := Lib.hid hr) | (go_at_call 136; refine ((ended_z hz4 x4).mono (fun _ _ q => (Rs.step (Rs.step (Rs.step (HK.out.1) hr2.out) hr3.out) hr4.out :) ▸ q)).mono ?_; rintro e w9 (⟨p, er, hr, rfl, hF⟩ | ⟨x9, s9, V9, hr9, rfl, hz9, hF9⟩) <;> first | replace hr9 := Lib.hid hr9 | replace hr := Lib.hid hr))
  · exact ⟨rfl, .inl (np_after (hF1) (Rs.step_no (HK.out.1) hr.out) hF)⟩
  · exact ⟨rfl, .inl (np_after ((hF1).trans (hF2)) (Rs.step_no (Rs.step (HK.out.1) hr2.out) hr.out) hF)⟩
  · exact ⟨rfl, .inl (np_after (((hF1).trans (hF2)).trans (hF3)) (Rs.step_no (Rs.step (Rs.step (HK.out.1) hr2.out) hr3.out) hr.out) hF)⟩
  · exact ⟨rfl, .inl (np_after ((((hF1).trans (hF2)).trans (hF3)).trans (hF4)) (hr.out) hF)⟩
  · go_ret
    exact .inr ⟨x9, s9, V9, hr9.out, rfl, hz9, ((((hF1).trans (hF2)).trans (hF3)).trans (hF4)).trans hF9⟩
end Go.Proofs.YtdoeinjplgeadaaGreatDoor
