/- PROVED here: the contract of like where tokens are alike; a law for an append that is guarded. No condition but those in each theorem's own head. -/
import Derived.Test.YtahmadelokofbaaDoorS
namespace Go.Proofs.YtahmadelokofbaaDoor
open Go Go.RowKit

def strip (t : Tok) : Nat × Int × List UInt8 := (t.k, t.n, t.s)
def Like (ts us : List Tok) : Prop := ts.map strip = us.map strip
theorem Like.len {ts us : List Tok} (h : Like ts us) : ts.length = us.length := by have := congrArg List.length h; simpa using this
theorem Like.at {ts us : List Tok} (h : Like ts us) {j : Nat} (h1 : j < ts.length) (h2 : j < us.length) : ts[j].k = us[j].k ∧ ts[j].n = us[j].n ∧ ts[j].s = us[j].s := by
  have e : (ts.map strip)[j]? = (us.map strip)[j]? := by rw [h]
  rw [List.getElem?_map, List.getElem?_map, List.getElem?_eq_getElem h1, List.getElem?_eq_getElem h2] at e
  simp only [Option.map_some, Option.some.injEq, strip, Prod.mk.injEq] at e
  exact e
set_option maxRecDepth 100000 in
set_option maxHeartbeats 4000000 in
theorem like_true (A B : Option Addr) (ca cb : Nat) (ts us : List Tok) (w : World) (hA : Toks w A ts) (hB : Toks w B us) (hl : ts.length ≤ 20001) (hL : Like ts us) :
    Calls Tryd.prog 22 #[.slice A ts.length ca, .slice B us.length cb] w (SamePost true w) := by
  have hlen := hL.len
  have HLE := Lib.hid hlen
  have hq : ((ts.length : Int) != (us.length : Int)) = false := by rw [hlen]; simp
  have HA := Lib.hid hA
  have HB := Lib.hid hB
  have HL := Lib.hid hL
  clear hA hB hlen hL
  go_enter Tryd.func22, Tryd.ntmps22
  go_wp2
  go_loopw [5] (fun i wr => ∃ k m : Nat, k ≤ ts.length ∧ i = .int .i64 (k : Int) ∧ wr = w.drewN m) (fun i _ => ts.length - (intOf i).toNat)
  case atStart => exact ⟨0, 0, Nat.zero_le _, rfl, rfl⟩
  case round =>
    obtain ⟨k, m, hk, rfl, rfl⟩ := hrel
    by_cases hlt : k < ts.length
    · have hlz : (k : Int) < (ts.length : Int) := by omega
      have hlu : k < us.length := by rw [← HLE.out]; exact hlt
      have hluz : (k : Int) < (us.length : Int) := by omega
      obtain ⟨b, off, rfl, hb, c0, c1, c2, c3⟩ := HA.out.cells hlt
      obtain ⟨b', off', rfl, hb', d0, d1, d2, d3⟩ := HB.out.cells hlu
      obtain ⟨e1, e2, e3⟩ := HL.out.at hlt hlu
      rw [← e1] at d0
      rw [← e2] at d1
      rw [← e3] at d3
      generalize ts[k] = t at *
      clear e1 e2 e3 d2 c2
      have q1 : ((t.k : Int) != (t.k : Int)) = false := by simp
      have q2 : (t.n != t.n) = false := by simp
      have q3 : ((bs t.s).toList != (bs t.s).toList) = false := by simp
      go_wp2
      go_quiet (fail)
      go_wp2
      go_roundw
      case rel => exact ⟨k + 1, m + nq, by omega, by go_num, rfl⟩
      case measure => simp [intOf]; omega
    · have hlz : ¬ (k : Int) < (ts.length : Int) := by omega
      go_wp2
      go_ret
      exact ⟨rfl, m, rfl⟩
theorem wpList_append_own_g {P : Program} {w : World} {ops : Array Oper} {rest : List Oper} {o : Oper} {a : Act} {Q : Exit → Act → World → Prop} (hgd : Region.wanted o (yielded ops a.tmps) = true) (s x : Operand) (t : TypeId)
    (ho : o.op = .call { callee := .builtin .append, args := #[s, x], argTypes := #[t, t] })
    (base : Nat) (e : TypeId) (i : TypeInfo) (z : Value) (size bytes : Nat) (ht : P.underlying t = some (.slice e)) (hi : P.info? e = some i) (hz : i.zero = some z)
    (hsize : i.size = size) (hby : i.bytes = bytes) (hzs : z.cells.size = size) (hsz : 0 < size)
    (v : Value) (n : Nat) (xs : List Value) (hs : a.eval s = v) (hown : w.ownsRow base e size v n xs)
    (ad : Addr) (m c : Nat) (news : List Value) (hx : a.eval x = .slice (some ad) m c) (hl : news.length = m * size) (hnews : ∀ j u, news[j]? = some u → w.cell? (ad.add j) = some u) (h1 : ∀ u ∈ news, u.oneCell' = true)
    (h63 : n + m ≤ maxLen) (hbytes : (n + m) * bytes ≤ 140737488355328) (hbase : base ≤ w.heap.size)
    (h : ∀ v' w', w'.ownsRow base e size v' (n + m) (xs ++ news) → w.grownBy w' v.ownBlock → wpList P ops Q rest (a.put o.dst v') w') : wpList P ops Q (o :: rest) a w :=
  wpList_step fun _ hK => by
    rw [if_pos hgd]
    exact wp_append_own w s x t ho base e i z size bytes ht hi hz hsize hby hzs hsz v n xs hs hown ad m c news hx hl hnews h1 h63 hbytes hbase fun v' w' h2 h3 _ => hK _ _ (h v' w' h2 h3)
theorem Toks.news {w : World} {b off : Nat} {ts : List Tok} (h : Toks w (some ⟨b, off, none⟩) ts) : ∀ j u, (tfl ts)[j]? = some u → w.cell? ((⟨b, off, none⟩ : Addr).add j) = some u := fun j u hu => by
  have hj : j < ts.length * 4 := by rw [← tfl_len]; exact (List.getElem?_eq_some_iff.1 hu).1
  obtain ⟨b', off', e, _, hc⟩ := h (by omega)
  injection e with e
  injection e with e1 e2
  subst e1 e2
  have hq : j / 4 < ts.length := by omega
  have := hc (j / 4) hq (j % 4) (Nat.mod_lt _ (by decide))
  rw [← tfl_get ts (j / 4) hq (j % 4) (Nat.mod_lt _ (by decide))] at this
  rw [show j / 4 * 4 + j % 4 = j by omega] at this
  rw [hu] at this
  rw [← this]
  have e : (⟨b, off, none⟩ : Addr).add j = ⟨b, off + j, none⟩ := by simp [Addr.add]
  rw [e, Nat.add_assoc, show j / 4 * 4 + j % 4 = j by omega]
theorem tfl_one (ts : List Tok) : ∀ u ∈ tfl ts, u.oneCell' = true := fun u hu => by
  unfold tfl at hu
  rw [List.mem_flatMap] at hu
  obtain ⟨t, _, hu⟩ := hu
  simp only [tcv, List.mem_cons, List.not_mem_nil, or_false] at hu
  rcases hu with rfl | rfl | rfl | rfl <;> rfl
theorem Toks.some {w : World} {A : Option Addr} {ts : List Tok} (h : Toks w A ts) (h0 : 0 < ts.length) : ∃ b off, A = some ⟨b, off, none⟩ ∧ b < w.heap.size := by
  obtain ⟨b, off, e, hb, _⟩ := h h0; exact ⟨b, off, e, hb⟩
theorem Toks.left {w : World} {A : Option Addr} {ts us : List Tok} (h : Toks w A (ts ++ us)) : Toks w A ts := fun h0 => by
  obtain ⟨b, off, e, hb, hc⟩ := h (by rw [List.length_append]; omega)
  refine ⟨b, off, e, hb, fun j hj i hi => ?_⟩
  have := hc j (by rw [List.length_append]; omega) i hi
  rw [List.getElem_append_left hj] at this
  exact this
end Go.Proofs.YtahmadelokofbaaDoor
