/- PROVED here: both lattices side by side, and what each tells. No condition but those in each theorem's own head. -/
import Derived.Test.YtefnbjkmmmdagaaMq
import Derived.Test.YtefnbjkmmmdagaaMg
import Derived.Test.YtefnbjkmmmdagaaMh
import Derived.Test.YtefnbjkmmmdagaaMl
import Derived.Test.YtefnbjkmmmdagaaMd
import Derived.Test.YtefnbjkmmmdagaaCa
namespace Go.Proofs.Ytefnbjkmmmdagaa
open Go Go.RowKit

/-- the program's lattice and the document's, side by side -/
structure MW (w0 : World) (g : Nat) (l : List ByteArray) (u d : Nat → Nat) (A : Option Addr) (base gr : Nat) (V : Nat → Nat → Bool) (w : World) : Prop where
  lw : LW w0 g l u d w
  ro : RLo base A w gr l V
  gb : g < base
  ga : ∀ a, A = some a → a.block < w0.heap.size
section
variable {w0 w : World} {g : Nat} {l : List ByteArray} {u d : Nat → Nat} {A : Option Addr} {base gr : Nat} {V : Nat → Nat → Bool}
theorem MW.post (h : MW w0 g l u d A base gr V w) {v : Value} {e : Ending} {w' : World} (hp : LPost g l u d v w e w') : e = .returned v ∧ MW w0 g l u d A base gr V w' := by
  obtain ⟨he, hw⟩ := h.lw.post hp
  refine ⟨he, hw, h.ro.same hp.2.2.size (fun b hb hb2 => hp.2.2.block b hb (fun e => ?_)) (fun a ha => hp.2.2.block _ ?_ (fun e => ?_)), h.gb, h.ga⟩
  · injection e with e; have := h.gb; omega
  · have := h.ga a ha; have := h.lw.2.1.size; omega
  · injection e with e; have := h.ga a ha; have := h.lw.1; omega
theorem MW.keep (h : MW w0 g l u d A base gr V w) {w' : World} (hb : Below w.heap.size w w') : MW w0 g l u d A base gr V w' :=
  ⟨⟨h.lw.1, h.lw.2.1.trans (hb.mono h.lw.2.1.size), h.lw.2.2.below hb⟩, h.ro.same hb.size (fun b hb1 _ => hb.block b hb1) (fun a ha => hb.block _ (by have := h.ga a ha; have := h.lw.2.1.size; omega)), h.gb, h.ga⟩
theorem MW.drewN (h : MW w0 g l u d A base gr V w) (k : Nat) : MW w0 g l u d A base gr V (w.drewN k) := h.keep (below_drewN (Below.refl _ _) k)
theorem has_nat {n : Nat} {x : Int} (h : hasB n x = true) : ∃ k : Nat, x = k ∧ k < n := by
  unfold hasB at h
  rw [Bool.and_eq_true, decide_eq_true_eq, decide_eq_true_eq] at h
  exact ⟨x.toNat, by omega, by omega⟩
theorem beB_out {n : Nat} {a b : Int} (h : hasB n a = false ∨ hasB n b = false) : beB n V a b = false := by
  unfold beB
  rw [decide_eq_false]
  · rfl
  · rintro ⟨h1, h2, h3, h4⟩
    rcases h with h | h
    · unfold hasB at h; rw [decide_eq_true h1, decide_eq_true h3] at h; cases h
    · unfold hasB at h; rw [decide_eq_true h2, decide_eq_true h4] at h; cases h
theorem jn_out {n : Nat} {a b : Int} (h : hasB n a = false ∨ hasB n b = false) : fstI n (jnB n V a b) = -1 := fstI_miss fun c hc => by
  unfold jnB
  rcases h with h | h
  · rw [beB_out (.inl h)]; rfl
  · rw [beB_out (V := V) (a := b) (b := (c : Int)) (.inl h)]; simp
theorem mt_out {n : Nat} {a b : Int} (h : hasB n a = false ∨ hasB n b = false) : fstI n (mtB n V a b) = -1 := fstI_miss fun c hc => by
  unfold mtB
  rcases h with h | h
  · rw [beB_out (V := V) (a := (c : Int)) (b := a) (.inr h)]; rfl
  · rw [beB_out (V := V) (a := (c : Int)) (b := b) (.inr h)]; simp
variable (hL : Latt l.length u d) (hV : ∀ x y, x < l.length → y < l.length → V x y = (u x).testBit y)
include hL hV
theorem mw_below (a b : Int) (h : MW w0 g l u d A base gr V w) : Calls Try.prog 14 #[.pointer (some ⟨g, 0, none⟩), .int .i64 a, .int .i64 b] w fun e w' => e = .returned (.bool (beB l.length V a b)) ∧ MW w0 g l u d A base gr V w' := by
  by_cases q : hasB l.length a = false ∨ hasB l.length b = false
  · rw [beB_out q]
    exact (below_out g l u d a b w q h.lw.2.2).mono fun _ _ ⟨he, k, hk⟩ => ⟨he, by rw [hk]; exact h.drewN k⟩
  · obtain ⟨x, rfl, hx⟩ := has_nat (n := l.length) (x := a) (by cases e : hasB l.length a with | true => rfl | false => exact absurd (.inl e) q)
    obtain ⟨y, rfl, hy⟩ := has_nat (n := l.length) (x := b) (by cases e : hasB l.length b with | true => rfl | false => exact absurd (.inr e) q)
    rw [beB_in hx hy, hV x y hx hy]
    exact (below_in g l u d x y w hL.le16 hL.fitU hx hy h.lw.2.2).mono fun _ _ ⟨he, k, hk⟩ => ⟨he, by rw [hk]; exact h.drewN k⟩
theorem mw_join (a b : Int) (h : MW w0 g l u d A base gr V w) : Calls Try.prog 16 #[.pointer (some ⟨g, 0, none⟩), .int .i64 a, .int .i64 b] w fun e w' => e = .returned (.int .i64 (fstI l.length (jnB l.length V a b))) ∧ MW w0 g l u d A base gr V w' := by
  by_cases q : hasB l.length a = false ∨ hasB l.length b = false
  · rw [jn_out q]
    exact (join_out g l u d a b w q h.lw.2.2).mono fun _ _ ⟨he, hk⟩ => ⟨he, by rw [← hk]; exact h⟩
  · obtain ⟨x, rfl, hx⟩ := has_nat (n := l.length) (x := a) (by cases e : hasB l.length a with | true => rfl | false => exact absurd (.inl e) q)
    obtain ⟨y, rfl, hy⟩ := has_nat (n := l.length) (x := b) (by cases e : hasB l.length b with | true => rfl | false => exact absurd (.inr e) q)
    rw [jn_bd hL.toOrd hV hx hy]
    exact (join_core g l u d x y _ (Lib.hid rfl) w hL.le16 hL.fitU hL.fitD hx hy h.lw.2.2).mono fun _ _ hp => h.post hp
theorem mw_meet (a b : Int) (h : MW w0 g l u d A base gr V w) : Calls Try.prog 18 #[.pointer (some ⟨g, 0, none⟩), .int .i64 a, .int .i64 b] w fun e w' => e = .returned (.int .i64 (fstI l.length (mtB l.length V a b))) ∧ MW w0 g l u d A base gr V w' := by
  by_cases q : hasB l.length a = false ∨ hasB l.length b = false
  · rw [mt_out q]
    exact (meet_out g l u d a b w q h.lw.2.2).mono fun _ _ ⟨he, hk⟩ => ⟨he, by rw [← hk]; exact h⟩
  · obtain ⟨x, rfl, hx⟩ := has_nat (n := l.length) (x := a) (by cases e : hasB l.length a with | true => rfl | false => exact absurd (.inl e) q)
    obtain ⟨y, rfl, hy⟩ := has_nat (n := l.length) (x := b) (by cases e : hasB l.length b with | true => rfl | false => exact absurd (.inr e) q)
    rw [mt_bd hL.toOrd hV hx hy]
    exact (meet_core g l u d x y _ (Lib.hid rfl) w hL.le16 hL.fitU hL.fitD hx hy h.lw.2.2).mono fun _ _ hp => h.post hp
omit hL hV in
theorem mr_below (a b : Int) (h : MW w0 g l u d A base gr V w) : Calls Try.prog 15 #[.pointer (some ⟨gr, 0, none⟩), .int .i64 a, .int .i64 b] w fun e w' => e = .returned (.bool (beB l.length V a b)) ∧ MW w0 g l u d A base gr V w' :=
  (rbelow_any gr l V a b w h.ro.lat).mono fun _ _ ⟨he, hk⟩ => ⟨he, by rw [← hk]; exact h⟩
omit hV in
theorem mr_join (a b : Int) (h : MW w0 g l u d A base gr V w) : Calls Try.prog 17 #[.pointer (some ⟨gr, 0, none⟩), .int .i64 a, .int .i64 b] w fun e w' => e = .returned (.int .i64 (fstI l.length (jnB l.length V a b))) ∧ MW w0 g l u d A base gr V w' :=
  (rjoin_any gr l V a b w (by have := hL.le16; omega) h.ro.lat).mono fun _ _ ⟨he, hk⟩ => ⟨he, by rw [← hk]; exact h⟩
omit hV in
theorem mr_meet (a b : Int) (h : MW w0 g l u d A base gr V w) : Calls Try.prog 19 #[.pointer (some ⟨gr, 0, none⟩), .int .i64 a, .int .i64 b] w fun e w' => e = .returned (.int .i64 (fstI l.length (mtB l.length V a b))) ∧ MW w0 g l u d A base gr V w' :=
  (rmeet_any gr l V a b w (by have := hL.le16; omega) h.ro.lat).mono fun _ _ ⟨he, hk⟩ => ⟨he, by rw [← hk]; exact h⟩
omit hL hV in
theorem mw_len (h : MW w0 g l u d A base gr V w) : Calls Try.prog 20 #[.pointer (some ⟨g, 0, none⟩)] w fun e w' => e = .returned (.int .i64 (l.length : Int)) ∧ MW w0 g l u d A base gr V w' :=
  (len_any g l u d w h.lw.2.2).mono fun _ _ ⟨he, hk⟩ => ⟨he, by rw [← hk]; exact h⟩
omit hV in
theorem mw_place (s : ByteArray) (h : MW w0 g l u d A base gr V w) : Calls Try.prog 23 #[.pointer (some ⟨g, 0, none⟩), .string s] w fun e w' => e = .returned (.int .i64 (idxO l s)) ∧ MW w0 g l u d A base gr V w' :=
  (place_any g l u d s w hL.le16 h.lw.2.2).mono fun _ _ ⟨he, hk⟩ => ⟨he, by rw [← hk]; exact h⟩
omit hV in
theorem mr_place (s : ByteArray) (h : MW w0 g l u d A base gr V w) : Calls Try.prog 24 #[.pointer (some ⟨gr, 0, none⟩), .string s] w fun e w' => e = .returned (.int .i64 (idxO l s)) ∧ MW w0 g l u d A base gr V w' :=
  (rplace_any gr l V s w (by have := hL.le16; omega) h.ro.lat).mono fun _ _ ⟨he, hk⟩ => ⟨he, by rw [← hk]; exact h⟩
omit hV in
theorem mw_bottom (h : MW w0 g l u d A base gr V w) : Calls Try.prog 25 #[.pointer (some ⟨g, 0, none⟩)] w fun e w' => e = .returned (.int .i64 (idxM l.length u (2 ^ l.length - 1))) ∧ MW w0 g l u d A base gr V w' :=
  (bottom_core g l u d _ w hL.pos hL.le16 (Lib.hid rfl) h.lw.2.2).mono fun _ _ ⟨he, k, hk⟩ => ⟨he, by rw [hk]; exact h.drewN k⟩
theorem mr_bottom (h : MW w0 g l u d A base gr V w) : Calls Try.prog 26 #[.pointer (some ⟨gr, 0, none⟩)] w fun e w' => e = .returned (.int .i64 (idxM l.length u (2 ^ l.length - 1))) ∧ MW w0 g l u d A base gr V w' := by
  rw [← bot_same hL.toOrd hL.dist hL.meets hV hL.pos]
  exact (rbottom_any gr l V w hL.pos (by have := hL.le16; omega) h.ro.lat).mono fun _ _ ⟨he, hk⟩ => ⟨he, by rw [← hk]; exact h⟩
omit hV in
theorem mw_top (h : MW w0 g l u d A base gr V w) : Calls Try.prog 27 #[.pointer (some ⟨g, 0, none⟩)] w fun e w' => e = .returned (.int .i64 (idxM l.length d (2 ^ l.length - 1))) ∧ MW w0 g l u d A base gr V w' :=
  (top_core g l u d _ w hL.pos hL.le16 (Lib.hid rfl) h.lw.2.2).mono fun _ _ ⟨he, k, hk⟩ => ⟨he, by rw [hk]; exact h.drewN k⟩
theorem mr_top (h : MW w0 g l u d A base gr V w) : Calls Try.prog 28 #[.pointer (some ⟨gr, 0, none⟩)] w fun e w' => e = .returned (.int .i64 (idxM l.length d (2 ^ l.length - 1))) ∧ MW w0 g l u d A base gr V w' := by
  rw [← top_same hL.toOrd (hL.toOrd.dist hL.dist) hL.joins hV hL.pos]
  exact (rtop_any gr l V w hL.pos (by have := hL.le16; omega) h.ro.lat).mono fun _ _ ⟨he, hk⟩ => ⟨he, by rw [← hk]; exact h⟩
end
section
variable {ops : Array Oper} {Q : Exit → Act → World → Prop} {rest : List Oper} {a : Act} {w : World} {d : Option Tmp} {ty : TypeId} {p : String} {af : Array Edge} {gd : Option (Nat × Bool)}
theorem p_neqB {x y : Operand} {u v b : Bool} (hw : Region.wanted ⟨d, .binOp .neq 4 x y 4, ty, p, af, gd⟩ (yielded ops a.tmps) = true) (hx : a.eval x = .bool u) (hy : a.eval y = .bool v) (hb : (u != v) = b)
    (h : wpList Try.prog ops Q rest (a.put d (.bool b)) w) : wpList Try.prog ops Q (⟨d, .binOp .neq 4 x y 4, ty, p, af, gd⟩ :: rest) a w :=
  p_bin hw hx hy (by simp [go_sem]) (by subst hb; have := lit4; cases u <;> cases v <;> simp [go_sem, this]) h
theorem p_neqI {x y : Operand} {u v : Int} {b : Bool} (hw : Region.wanted ⟨d, .binOp .neq 3 x y 3, ty, p, af, gd⟩ (yielded ops a.tmps) = true) (hx : a.eval x = .int .i64 u) (hy : a.eval y = .int .i64 v) (hb : (u != v) = b)
    (h : wpList Try.prog ops Q rest (a.put d (.bool b)) w) : wpList Try.prog ops Q (⟨d, .binOp .neq 3 x y 3, ty, p, af, gd⟩ :: rest) a w :=
  p_bin hw hx hy (by simp [go_sem]) (by simp [go_sem, hb]) h
theorem p_lenS {x : Operand} {A : Option Addr} {n c : Nat} (hw : Region.wanted ⟨d, .call { callee := .builtin .len, args := #[x], argTypes := #[22] }, 3, p, af, gd⟩ (yielded ops a.tmps) = true) (hx : a.eval x = .slice A n c)
    (h : wpList Try.prog ops Q rest (a.put d (.int .i64 (n : Int))) w) : wpList Try.prog ops Q (⟨d, .call { callee := .builtin .len, args := #[x], argTypes := #[22] }, 3, p, af, gd⟩ :: rest) a w :=
  p_val hw (by
    have hl : (Builtin.len_ #[22] 3 #[.slice A n c]).run Try.prog w = .ok (.int .i64 (n : Int)) w := by simp [go_sem]
    unfold execOp
    simp only [resolve, invoke, builtin, List.map_toArray, List.map_cons, List.map_nil, hx, Sem.run_bind, Sem.run_pure, Result.andThen_ok, hl]) h
theorem p_callE {F : Nat} {xs : Array Operand} {ts : Array TypeId} {args : Array Value} {C : Value → World → Prop} (hF : Own F) (hw : Region.wanted ⟨d, .call { callee := .value (.func F), args := xs, argTypes := ts }, ty, p, af, gd⟩ (yielded ops a.tmps) = true)
    (ha' : (xs.toList.map a.eval).toArray = args) (hc : Calls Try.prog F args w fun e w' => ∃ v, e = .returned v ∧ C v w')
    (h : ∀ v w', C v w' → wpList Try.prog ops Q rest (a.put d v) w') : wpList Try.prog ops Q (⟨d, .call { callee := .value (.func F), args := xs, argTypes := ts }, ty, p, af, gd⟩ :: rest) a w :=
  wpList_step fun K hK => by
    rw [if_pos hw]
    unfold Oper.wp execOp
    have ha : xs.map a.eval = args := by rw [← ha']; exact Array.ext' (by rw [Array.toList_map])
    have e : a.eval (.func F) = .func (.func F) #[] #[] := rfl
    have e2 : (#[] ++ args : Array Value) ++ #[] = args := by simp
    simp only [resolve, e, ha, Deferred.ofValue, invoke, Sem.run_bind, Sem.run_pure, Result.andThen_ok]
    rw [e2, run_own hF]
    exact hc.mono fun e w' ⟨v, he, hC⟩ => by subst he; exact hK _ _ (h v w' hC)
end
end Go.Proofs.Ytefnbjkmmmdagaa
