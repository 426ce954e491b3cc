/- PROVED here: contracts of namedLeaf, marked, typed, param and truth. No condition but those in each theorem's own head. -/
import Derived.Test.YtdoeinjplgeadaaGreatDoorPo
namespace Go.Proofs.YtdoeinjplgeadaaGreatDoor
open Go Go.RowKit
open Tr (Bx heap1 bt gen_world ret_int ret_bool cell_same)

/-- a node over 1 new kids -/
theorem add_s1 {X : Nat → Prop} {w : World} {base g c : Nat} {A : Option Addr} {ts : List Tok} {V : Value} {s : St} (h : Pz X w base g A c ts V s) (kd nn pl : Int) (tx : List UInt8) (K0 : Option Addr) (n0 c0 : Nat) (x1 : Int) {s0 : St} {R : Rs} (HR : R = .ok [(s.nd.length : Int)] { s with nd := s.nd ++ [⟨kd, nn, pl, tx, [x1]⟩] }) (hk : Nk s0 0 R) (h0 : s0.nd.length ≤ s0.nx) :
    Calls Tryz.prog 44 #[.pointer (some ⟨g, 0, none⟩), .agg #[.int .i64 kd, .int .i64 nn, .int .i64 pl, .string (bs tx), .slice K0 n0 c0], .slice (some ⟨w.heap.size, 0, none⟩) 1 1] (w.alloc (.cells #[.int .i64 x1] 3)) (IPost X base g A c ts V w R) :=
  (add_z (h.below (heap1 w (.cells #[.int .i64 x1] 3))) kd nn pl tx K0 (some ⟨w.heap.size, 0, none⟩) n0 c0 1 1 [x1] (kd_new h.hX [x1]) rfl HR hk h0).mono fun _ _ q => q.after (Fo.below (heap1 _ _))
/-- a node over 2 new kids -/
theorem add_s2 {X : Nat → Prop} {w : World} {base g c : Nat} {A : Option Addr} {ts : List Tok} {V : Value} {s : St} (h : Pz X w base g A c ts V s) (kd nn pl : Int) (tx : List UInt8) (K0 : Option Addr) (n0 c0 : Nat) (x1 x2 : Int) {s0 : St} {R : Rs} (HR : R = .ok [(s.nd.length : Int)] { s with nd := s.nd ++ [⟨kd, nn, pl, tx, [x1, x2]⟩] }) (hk : Nk s0 0 R) (h0 : s0.nd.length ≤ s0.nx) :
    Calls Tryz.prog 44 #[.pointer (some ⟨g, 0, none⟩), .agg #[.int .i64 kd, .int .i64 nn, .int .i64 pl, .string (bs tx), .slice K0 n0 c0], .slice (some ⟨w.heap.size, 0, none⟩) 2 2] (w.alloc (.cells #[.int .i64 x1, .int .i64 x2] 3)) (IPost X base g A c ts V w R) :=
  (add_z (h.below (heap1 w (.cells #[.int .i64 x1, .int .i64 x2] 3))) kd nn pl tx K0 (some ⟨w.heap.size, 0, none⟩) n0 c0 2 2 [x1, x2] (kd_new h.hX [x1, x2]) rfl HR hk h0).mono fun _ _ q => q.after (Fo.below (heap1 _ _))
/-- a node over 3 new kids -/
theorem add_s3 {X : Nat → Prop} {w : World} {base g c : Nat} {A : Option Addr} {ts : List Tok} {V : Value} {s : St} (h : Pz X w base g A c ts V s) (kd nn pl : Int) (tx : List UInt8) (K0 : Option Addr) (n0 c0 : Nat) (x1 x2 x3 : Int) {s0 : St} {R : Rs} (HR : R = .ok [(s.nd.length : Int)] { s with nd := s.nd ++ [⟨kd, nn, pl, tx, [x1, x2, x3]⟩] }) (hk : Nk s0 0 R) (h0 : s0.nd.length ≤ s0.nx) :
    Calls Tryz.prog 44 #[.pointer (some ⟨g, 0, none⟩), .agg #[.int .i64 kd, .int .i64 nn, .int .i64 pl, .string (bs tx), .slice K0 n0 c0], .slice (some ⟨w.heap.size, 0, none⟩) 3 3] (w.alloc (.cells #[.int .i64 x1, .int .i64 x2, .int .i64 x3] 3)) (IPost X base g A c ts V w R) :=
  (add_z (h.below (heap1 w (.cells #[.int .i64 x1, .int .i64 x2, .int .i64 x3] 3))) kd nn pl tx K0 (some ⟨w.heap.size, 0, none⟩) n0 c0 3 3 [x1, x2, x3] (kd_new h.hX [x1, x2, x3]) rfl HR hk h0).mono fun _ _ q => q.after (Fo.below (heap1 _ _))
set_option maxRecDepth 100000 in
set_option maxHeartbeats 1500000 in
theorem leaf_z {X : Nat → Prop} {w : World} {base g c : Nat} {A : Option Addr} {ts : List Tok} {V : Value} {s : St} (h : Pz X w base g A c ts V s) (kd : Nat) : Calls Tryz.prog 156 #[.pointer (some ⟨g, 0, none⟩), .int .i64 (kd : Int)] w (IPost X base g A c ts V w (leafM ts kd s)) := by
  have hk : Nk s 0 (leafM ts kd s) := nk_leaf ts s kd
  obtain ⟨R, HR⟩ : ∃ R, R = leafM ts kd s := ⟨_, rfl⟩
  rw [← HR] at hk ⊢
  unfold leafM at HR
  dsimp only at HR
  have HC := Lib.hid (name_z h)
  generalize tkn ts s = t at *
  have HK := Lib.hid (And.intro HR (And.intro hk h.hn))
  clear HR hk h
  unfold tokV at *
  go_enter Tryz.func156, Tryz.ntmps156
  go_wp2_with (go_at_call 73; refine (HC.out).mono ?_; rintro e w1 (⟨p, er, hr, rfl, hF⟩ | ⟨s1, hr, rfl, hz, hF⟩) <;> replace hr := Lib.hid hr)
  · exact ⟨rfl, .inl ⟨p, er, Rs.step_no HK.out.1 hr.out, rfl, hF⟩⟩
  · have HR1 := Rs.step HK.out.1 hr.out
    obtain ⟨W2, hW2⟩ : ∃ W2, w1.alloc (.cells #[.int .i64 (t.k : Int), .int .i64 t.n, .int .i64 (t.p : Int), .string (bs t.s)] 36) = W2 := ⟨_, rfl⟩
    rw [hW2]
    have hb2 : Below w1.heap.size w1 W2 := by rw [← hW2]; exact heap1 _ _
    have hT : Bx W2 w1.heap.size 36 [.int .i64 (t.k : Int), .int .i64 t.n, .int .i64 (t.p : Int), .string (bs t.s)] := by rw [← hW2]; exact Bx.new w1 36 _
    have hz2 := hz.below hb2
    have HA := Lib.hid (add_z hz2 (kd : Int) 0 (t.p : Int) t.s none none 0 0 0 0 [] (kd_nil _ _) rfl HR1 HK.out.2.1 HK.out.2.2)
    have HF := Lib.hid (hF.trans (Fo.below (V := V) hb2))
    have t2 := (hT.cell 2).trans rfl
    have t3 := (hT.cell 3).trans rfl
    clear hz hF hr HR1 hz2 hT hb2 HC HK
    go_wp2_with (go_at_call 44; refine (HA.out).mono ?_; rintro e w3 (⟨p, er, hr, rfl, hF⟩ | ⟨x, s3, V3, hr, rfl, hz, hF⟩) <;> replace hr := Lib.hid hr)
    · exact ⟨rfl, .inl (np_after HF.out hr.out hF)⟩
    · go_ret
      exact .inr ⟨x, s3, V3, hr.out, rfl, hz, HF.out.trans hF⟩
set_option maxRecDepth 100000 in
set_option maxHeartbeats 1500000 in
theorem mark_z {X : Nat → Prop} {w : World} {base g c : Nat} {A : Option Addr} {ts : List Tok} {V : Value} {s : St} (h : Pz X w base g A c ts V s) (kd : Nat) (hs : (tkn ts s).s ≠ []) : Calls Tryz.prog 153 #[.pointer (some ⟨g, 0, none⟩), .int .i64 (kd : Int)] w (IPost X base g A c ts V w (markM ts kd s)) := by
  have hk : Nk s 0 (markM ts kd s) := (nk_mark ts s kd).weak (by omega)
  obtain ⟨R, HR⟩ : ∃ R, R = markM ts kd s := ⟨_, rfl⟩
  rw [← HR] at hk ⊢
  unfold markM at HR
  dsimp only at HR
  have HT := Lib.hid (take_z h (.inr hs))
  have hf := field36_2 (tkn ts s)
  have hf2 := field36_3 (tkn ts (takeS s))
  have HC := Lib.hid (fun w' (q : Pz X w' base g A c ts V (takeS s)) => name_z q)
  have HK := Lib.hid (And.intro HR (And.intro hk h.hn))
  have HA := Lib.hid (fun (w' : World) (s2 : St) (q : Pz X w' base g A c ts V s2) (hr : nameM ts (takeS s) = .ok [] s2) => add_z q (kd : Int) 0 ((tkn ts s).p : Int) (tkn ts (takeS s)).s none none 0 0 0 0 [] (kd_nil _ _) rfl (Rs.step HR hr :) hk h.hn)
  generalize tokV (tkn ts (takeS s)) = v2 at *
  generalize tokV (tkn ts s) = v at *
  generalize (tkn ts (takeS s)).s = a at *
  generalize ((tkn ts s).p : Int) = p0 at *
  clear hs HR hk h
  go_enter Tryz.func153, Tryz.ntmps153
  go_wp2_with (first | (go_at_call 69; refine HT.out.mono ?_; rintro e w1 ⟨rfl, hz1, hF1⟩) | (go_at_call 73; refine (HC.out _ hz1).mono ?_; rintro e w2 (⟨p, er, hr, rfl, hF⟩ | ⟨s2, hr, rfl, hz2, hF2⟩) <;> replace hr := Lib.hid hr) | (go_at_call 44; refine (HA.out _ _ hz2 hr.out).mono ?_; rintro e w3 (⟨p, er, hr, rfl, hF⟩ | ⟨x, s3, V3, hr, rfl, hz3, hF3⟩) <;> replace hr := Lib.hid hr))
  · exact ⟨rfl, .inl (np_after hF1 (Rs.step_no HK.out.1 hr.out) hF)⟩
  · exact ⟨rfl, .inl (np_after (hF1.trans hF2) hr.out hF)⟩
  · go_ret
    exact .inr ⟨x, s3, V3, hr.out, rfl, hz3, (hF1.trans hF2).trans hF3⟩
set_option maxRecDepth 100000 in
set_option maxHeartbeats 1500000 in
theorem typed_z {X : Nat → Prop} {w : World} {base g c : Nat} {A : Option Addr} {ts : List Tok} {V : Value} {s : St} (h : Pz X w base g A c ts V s) (kd : Nat) (pl : Int) : Calls Tryz.prog 70 #[.pointer (some ⟨g, 0, none⟩), .int .i64 (kd : Int), .int .i64 pl] w (IPost X base g A c ts V w (typedM ts kd pl s)) := by
  have hk : Nk s 0 (typedM ts kd pl s) := (nk_typed ts s kd pl).weak (by omega)
  obtain ⟨R, HR⟩ : ∃ R, R = typedM ts kd pl s := ⟨_, rfl⟩
  rw [← HR] at hk ⊢
  unfold typedM at HR
  dsimp only at HR
  have HT := Lib.hid (name_z h)
  have hf := field36_3 (tkn ts s)
  have HC := Lib.hid (fun w' s' (q : Pz X w' base g A c ts V s') => typeWord_z q)
  have HK := Lib.hid (And.intro HR (And.intro hk h.hn))
  have HA := Lib.hid (fun (w' : World) (V' : Value) (x : Int) (s1 s2 : St) (q : Pz X w' base g A c ts V' s2) (hr1 : nameM ts s = .ok [] s1) (hr : typeM ts s1 = .ok [x] s2) => add_z q (kd : Int) x pl (tkn ts s).s none none 0 0 0 0 [] (kd_nil _ _) rfl (Rs.step (Rs.step HR hr1) hr :) hk h.hn)
  generalize tokV (tkn ts s) = v at *
  generalize (tkn ts s).s = a at *
  clear HR hk h
  go_enter Tryz.func70, Tryz.ntmps70
  go_wp2_with (first | (go_at_call 73; refine (HT.out).mono ?_; rintro e w1 (⟨p, er, hr, rfl, hF⟩ | ⟨s1, hr1, rfl, hz1, hF1⟩) <;> first | replace hr := Lib.hid hr | replace hr1 := Lib.hid hr1) | (go_at_call 76; refine (HC.out _ _ hz1).mono ?_; rintro e w2 (⟨p, er, hr, rfl, hF⟩ | ⟨n, s2, V2, hr2, rfl, hz2, hF2⟩) <;> first | replace hr := Lib.hid hr | replace hr2 := Lib.hid hr2) | (go_at_call 44; refine (HA.out _ _ _ _ _ hz2 hr1.out hr2.out).mono ?_; rintro e w3 (⟨p, er, hr, rfl, hF⟩ | ⟨x, s3, V3, hr, rfl, hz3, hF3⟩) <;> replace hr := Lib.hid hr))
  · exact ⟨rfl, .inl ⟨p, er, Rs.step_no HK.out.1 hr.out, rfl, hF⟩⟩
  · exact ⟨rfl, .inl (np_after hF1 (Rs.step_no (Rs.step HK.out.1 hr1.out) hr.out) hF)⟩
  · exact ⟨rfl, .inl (np_after (hF1.trans hF2) hr.out hF)⟩
  · go_ret
    exact .inr ⟨x, s3, V3, hr.out, rfl, hz3, (hF1.trans hF2).trans hF3⟩
set_option maxRecDepth 100000 in
set_option maxHeartbeats 1500000 in
theorem param_z {X : Nat → Prop} {w : World} {base g c : Nat} {A : Option Addr} {ts : List Tok} {V : Value} {s : St} (h : Pz X w base g A c ts V s) : Calls Tryz.prog 75 #[.pointer (some ⟨g, 0, none⟩)] w (IPost X base g A c ts V w (paramM ts s)) := by
  have HT := Lib.hid (token_z h)
  have hf := field36_2 (tkn ts s)
  have HC := Lib.hid (fun w' (q : Below w.heap.size w w') => typed_z (h.below q) 4 ((tkn ts s).p : Int))
  obtain ⟨R, HR⟩ : ∃ R, R = paramM ts s := ⟨_, rfl⟩
  rw [← HR]
  unfold paramM at HR
  rw [← HR] at HC
  generalize tokV (tkn ts s) = v at *
  generalize ((tkn ts s).p : Int) = p0 at *
  clear h HR
  go_enter Tryz.func75, Tryz.ntmps75
  go_wp2_with (first | (go_at_call 72; refine HT.out.mono ?_; rintro e w1 ⟨rfl, hb1⟩) | (go_at_call 70; refine (HC.out _ hb1).mono ?_; rintro e w3 (⟨p, er, hr, rfl, hF⟩ | ⟨x, s3, V3, hr, rfl, hz3, hF3⟩) <;> replace hr := Lib.hid hr))
  · exact ⟨rfl, .inl (np_after (Fo.below hb1) hr.out hF)⟩
  · go_ret
    exact .inr ⟨x, s3, V3, hr.out, rfl, hz3, (Fo.below hb1).trans hF3⟩
end Go.Proofs.YtdoeinjplgeadaaGreatDoor
