/-
  A tape in memory: its struct's cells, and its bytes as a slice of the call's own.
  tape's small functions: New, Sure, Steps, Down, room, Read, comes, step, fit.
  tape's step and fit.
-/
import Derived.Test.YtlhamckpgijjmaaPk25
import Derived.Test.YtlhamckpgijjmaaPk07
import Derived.Test.YtlhamckpgijjmaaPk09
namespace Go.Proofs.Ytlhamckpgijjmaa
open Go.RowKit
set_option linter.unusedVariables false

/-- What a tape holds: bytes, how many are sure, steps, the outage, the refusal, down. -/
structure TS where
  l : List Nat
  sure : Nat
  steps : Nat
  os : Bool
  oa : Nat
  rs : Bool
  ra : Nat
  down : Bool
def tcs (v : Value) (S : TS) : Array Value := #[v, .int .i64 ((S.sure : Nat) : Int), .int .i64 ((S.steps : Nat) : Int), .bool S.os, .int .i64 ((S.oa : Nat) : Int), .bool S.rs, .int .i64 ((S.ra : Nat) : Int), .bool S.down]
/-- A tape at block b. -/
structure Tp (W : World) (base b : Nat) (v : Value) (S : TS) : Prop where
  ge : base ≤ b
  blk : Blk W b (tcs v S) 63
  own : W.ownsRow base 5 1 v S.l.length (bys S.l)
  sure : S.sure ≤ S.l.length
  max : S.l.length ≤ 1048576
  bo : S.oa ≤ 9223372036854775807
  br : S.ra ≤ 9223372036854775807
theorem Tp.lt {W : World} {base b : Nat} {v : Value} {S : TS} (h : Tp W base b v S) : base < W.heap.size := Nat.lt_of_le_of_lt h.ge h.blk.lt
theorem Tp.below {W W' : World} {base b : Nat} {v v' : Value} {S : TS} (h : Tp W base b v S) (m : Mv b W W' v v') : Below base W W' :=
  ⟨m.os, m.tape, m.output, m.size, fun k hk => m.other k (Nat.lt_trans hk h.lt) (by have := h.ge; omega) (fun e => by have := (h.own.lt k e).1; omega)⟩
theorem Tp.apart {W : World} {base b : Nat} {v : Value} {S : TS} (h : Tp W base b v S) : v.ownBlock ≠ some b := blk_own h.own h.blk (by decide)
theorem Tp.keep {W W' : World} {base b : Nat} {v : Value} {S : TS} (h : Tp W base b v S) (hb : Below W.heap.size W W') : Tp W' base b v S :=
  ⟨h.ge, h.blk.keep hb, own_keep h.own hb, h.sure, h.max, h.bo, h.br⟩
theorem Tp.less {W : World} {base base' b : Nat} {v : Value} {S : TS} (h : Tp W base b v S) (hb : base' ≤ base) : Tp W base' b v S :=
  ⟨Nat.le_trans hb h.ge, h.blk, own_less h.own hb, h.sure, h.max, h.bo, h.br⟩
theorem Tp.sl {W : World} {base b : Nat} {v : Value} {S : TS} (h : Tp W base b v S) : Sl W v S.l := (own_sl h.own).2
/-- Numbers of it have turned: its bytes are the same. -/
theorem Tp.chg {W W' : World} {base b : Nat} {v : Value} {S S' : TS} (h : Tp W base b v S) (hB : Blk W' b (tcs v S') 63) (hc : Chg b W W') (hl : S'.l = S.l) (hs : S'.sure ≤ S.l.length) (ho : S'.oa ≤ 9223372036854775807) (hr : S'.ra ≤ 9223372036854775807) : Tp W' base b v S' :=
  ⟨h.ge, hB, by rw [hl]; exact own_chgT h.own hc h.apart, by rw [hl]; exact hs, by rw [hl]; exact h.max, ho, hr⟩
/-- The eight cells of a tape. -/
structure Oct (W : World) (b : Nat) (v : Value) (S : TS) : Prop where
  c0 : W.cell? ⟨b, 0, none⟩ = some v
  c1 : W.cell? ⟨b, 1, none⟩ = some (.int .i64 ((S.sure : Nat) : Int))
  c2 : W.cell? ⟨b, 2, none⟩ = some (.int .i64 ((S.steps : Nat) : Int))
  c3 : W.cell? ⟨b, 3, none⟩ = some (.bool S.os)
  c4 : W.cell? ⟨b, 4, none⟩ = some (.int .i64 ((S.oa : Nat) : Int))
  c5 : W.cell? ⟨b, 5, none⟩ = some (.bool S.rs)
  c6 : W.cell? ⟨b, 6, none⟩ = some (.int .i64 ((S.ra : Nat) : Int))
  c7 : W.cell? ⟨b, 7, none⟩ = some (.bool S.down)
theorem Tp.oct {W : World} {base b : Nat} {v : Value} {S : TS} (h : Tp W base b v S) : Oct W b v S :=
  ⟨h.blk.at rfl, h.blk.at rfl, h.blk.at rfl, h.blk.at rfl, h.blk.at rfl, h.blk.at rfl, h.blk.at rfl, h.blk.at rfl⟩
theorem Tp.frozen {W : World} {base b : Nat} {v : Value} {S : TS} (h : Tp W base b v S) (i : Nat) : W.frozen? ⟨b, i, none⟩ = false := h.blk.frozen i
theorem Tp.form {W : World} {base b : Nat} {v : Value} {S : TS} (h : Tp W base b v S) : ∃ q cap, v = .slice q S.l.length cap ∧ S.l.length ≤ cap ∧ cap ≤ 9223372036854775807 := by
  obtain ⟨q, cap, g, off, e, h1, h2, _⟩ := h.sl.open
  exact ⟨q, cap, e, h1, h2⟩

/-- append of bytes onto an own slice: its run, wherever the slice may lie. -/
theorem app_runB {w : World} (base : Nat) (ty : TypeId) {v vx : Value} {n k : Nat} {l m : List Nat} (hown : w.ownsRow base 5 1 v n (bys l)) (hsl : Sl w vx m) (hm : m.length = k) (h63 : n + k ≤ 4000000) (hA : base ≤ w.heap.size) :
    ∃ v' w', (Builtin.append_ #[59, 59] ty #[v, vx]).run Try.prog w = .ok v' w' ∧ w'.ownsRow base 5 1 v' (n + k) (bys (l ++ m)) ∧ w.grownBy w' v.ownBlock ∧ (v'.ownBlock = v.ownBlock ∨ v'.ownBlock = some w.heap.size) := by
  obtain ⟨i, hi, hz0, hz1, hz2⟩ := info_parts infoByte
  subst hm
  obtain ⟨q, cap, rfl, hq, hsrc⟩ := hsl.src
  cases q with
  | none =>
    have h0 := hq rfl
    have hm0 : m = [] := List.eq_nil_of_length_eq_zero h0
    subst hm0
    exact ⟨v, w, append_none (P := Try.prog) w base 59 ty 5 i 1 cap Try.underlying59 hi v n (bys l) hown, by simpa using hown, ⟨rfl, rfl, rfl, Nat.le_refl _, fun _ _ _ => rfl⟩, .inl rfl⟩
  | some ad =>
    obtain ⟨v', w', hr, h2, h3, h4, h5⟩ := run_append_own_at (P := Try.prog) w base 59 ty 5 i _ 1 1 Try.underlying59 hi hz0 hz1 hz2 rfl (by omega) v n (bys l) hown ad m.length cap (bys m) (by rw [bys_len, Nat.mul_one]) (hsrc ad rfl) (bys_one m) (by unfold maxLen; omega) (by omega) hA
    exact ⟨v', w', hr, by rw [← bys_append]; exact h2, h3, h5⟩
theorem app_t {ops : Array Oper} {rest : List Oper} {o : Oper} {a : Act} {w : World} {Q : Exit → Act → World → Prop} (base : Nat) (hw : Region.wanted o (yielded ops a.tmps) = true) {s x : Operand} (ho : o.op = .call { callee := .builtin .append, args := #[s, x], argTypes := #[59, 59] })
    {v vx : Value} {n k : Nat} {l m : List Nat} (hs : a.eval s = v) (hown : w.ownsRow base 5 1 v n (bys l)) (hx : a.eval x = vx) (hsl : Sl w vx m) (hm : m.length = k) (h63 : n + k ≤ 4000000) (hA : base ≤ w.heap.size)
    (h : ∀ v' w', w'.ownsRow base 5 1 v' (n + k) (bys (l ++ m)) → w.grownBy w' v.ownBlock → (v'.ownBlock = v.ownBlock ∨ v'.ownBlock = some w.heap.size) → wpList Try.prog ops Q rest (a.put o.dst v') w') : wpList Try.prog ops Q (o :: rest) a w := by
  obtain ⟨v', w', hr, h1, h2, h3⟩ := app_runB base o.type hown hsl hm h63 hA
  unfold wpList
  rw [if_pos hw]
  left
  unfold Oper.wp execOp
  simp only [ho, resolve, invoke, builtin, Sem.run_bind, Sem.run_pure, Result.andThen_ok, List.map_toArray, List.map_cons, List.map_nil, hs, hx, hr]
  exact h v' w' h1 h2 h3
theorem below_own {w w' : World} {base : Nat} {v : Value} {n : Nat} {xs : List Value} (h : w.ownsRow base 5 1 v n xs) (hA : base ≤ w.heap.size) (hg : w.grownBy w' v.ownBlock) : Below base w w' :=
  (Below.refl _ _).grown hg hA (fun r hr => (h.lt r hr).1)
set_option maxHeartbeats 400000 in
theorem clone_big (v : Value) (l : List Nat) (w : World) (hv : Sl w v l) (hn : l.length ≤ 4000000) :
    Calls Try.prog 50 #[v] w fun e w' => ∃ v', e = .returned v' ∧ w'.ownsRow w.heap.size 5 1 v' l.length (bys l) ∧ Below w.heap.size w w' := by
  obtain ⟨q, cap, g, off, rfl, hc, hm, hp, hg, hr⟩ := hv.open
  cases q with
  | none =>
    have h0 : ¬ 0 < l.length := fun h => by have := hp h; cases this
    have : l = [] := List.eq_nil_of_length_eq_zero (by omega)
    subst this
    clear hv hr hp hg
    have he := eq_nil none 0 cap w
    go_enter Try.func50, Try.ntmps50
    go_wp2_with fail
    go_ret
    exact ⟨_, rfl, World.ownsRow_nil w _ _ _, Below.refl _ _⟩
  | some ad =>
    clear hr hp hg
    generalize hl : l.length = n at *
    have he := eq_nil (some ad) n cap w
    go_enter Try.func50, Try.ntmps50
    go_wp2_with (first
        | (refine bs_by rfl rfl [] (vs := #[]) (by simp) (bsb0 _) rfl (by decide) ?_; intro W1 hN b1 z1)
        | (at_builtin; refine app_t w.heap.size rfl rfl rfl hN rfl (hv.keep b1) hl (by omega) b1.size ?_; intro v' W2 hown2 hgr2 hat2))
    go_ret
    exact ⟨_, rfl, by simpa using hown2, b1.trans (below_own hN b1.size hgr2)⟩
end Go.Proofs.Ytlhamckpgijjmaa
namespace Go.Proofs.Ytlhamckpgijjmaa
open Go.RowKit
set_option linter.unusedVariables false

abbrev tptr (b : Nat) : Value := .pointer (some ⟨b, 0, none⟩)
/-- A new tape. -/
abbrev ts0 : TS := ⟨[], 0, 0, false, 0, false, 0, false⟩
theorem new_any (w : World) : Calls Try.prog 8 #[] w fun e w' => e = .returned (tptr w.heap.size) ∧ Tp w' w.heap.size w.heap.size (.slice none 0 0) ts0 ∧ Below w.heap.size w w' := by
  go_enter Try.func8, Try.ntmps8
  go_wp2_with fail
  go_ret
  exact ⟨rfl, ⟨Nat.le_refl _, Blk.new _ _ _, World.ownsRow_nil _ _ _ _, Nat.le_refl _, by simp, by simp, by simp⟩, (Below.refl _ _).alloc (Nat.le_refl _) _⟩
theorem down_any (b : Nat) (x : Bool) (w : World) (c7 : w.cell? ⟨b, 7, none⟩ = some (.bool x)) :
    Calls Try.prog 16 #[tptr b] w fun e w' => e = .returned (.bool x) ∧ w' = w := by
  go_enter Try.func16, Try.ntmps16
  go_wp2_with fail
  go_ret
  exact ⟨rfl, rfl⟩
theorem room_any (b : Nat) (q : Option Addr) (n cap : Nat) (w : World) (c0 : w.cell? ⟨b, 0, none⟩ = some (.slice q n cap)) (hn : n ≤ 1048576) :
    Calls Try.prog 80 #[tptr b] w fun e w' => e = .returned (.int .i64 ((1048576 - n : Nat) : Int)) ∧ w' = w := by
  go_enter Try.func80, Try.ntmps80
  go_wp2_with fail
  go_ret
  exact ⟨ret_int (by omega), rfl⟩
theorem tread_any (base b : Nat) (v : Value) (S : TS) (w : World) (h : Tp w base b v S) :
    Calls Try.prog 35 #[tptr b] w fun e w' => ∃ v', e = .returned v' ∧ Ow w' w.heap.size v' S.l ∧ Below w.heap.size w w' := by
  have c0 := h.oct.c0
  have hs := h.sl
  have hm := h.max
  go_enter Try.func35, Try.ntmps35
  go_wp2_with (go_at_call 50; refine (clone_big _ _ _ hs (by omega)).mono ?_; rintro e W1 ⟨v1, rfl, hown, hb⟩)
  go_ret
  exact ⟨_, rfl, ow_of hown, hb⟩
theorem comes_no (b o : Nat) (w : World) (c : w.cell? ⟨b, o, none⟩ = some (.bool false)) :
    Calls Try.prog 69 #[.pointer (some ⟨b, o, none⟩)] w fun e w' => e = .returned (.bool false) ∧ w' = w := by
  go_enter Try.func69, Try.ntmps69
  go_wp2_with fail
  go_ret
  exact ⟨rfl, rfl⟩
theorem comes_yes (b o : Nat) (w : World) (c : w.cell? ⟨b, o, none⟩ = some (.bool true)) (c' : w.cell? ⟨b, o + 1, none⟩ = some (.int .i64 0)) (f : w.frozen? ⟨b, o, none⟩ = false) (f' : w.frozen? ⟨b, o + 1, none⟩ = false) :
    Calls Try.prog 69 #[.pointer (some ⟨b, o, none⟩)] w fun e w' => e = .returned (.bool true) ∧ w' = (w.setCell ⟨b, o, none⟩ (.bool false)).setCell ⟨b, o + 1, none⟩ (.int .i64 0) := by
  go_enter Try.func69, Try.ntmps69
  go_wp2_with fail
  go_ret
  exact ⟨rfl, rfl⟩
theorem comes_near (b o n : Nat) (w : World) (hn : n < 9223372036854775807) (c : w.cell? ⟨b, o, none⟩ = some (.bool true)) (c' : w.cell? ⟨b, o + 1, none⟩ = some (.int .i64 ((n + 1 : Nat) : Int))) (f : w.frozen? ⟨b, o, none⟩ = false) (f' : w.frozen? ⟨b, o + 1, none⟩ = false) :
    Calls Try.prog 69 #[.pointer (some ⟨b, o, none⟩)] w fun e w' => e = .returned (.bool false) ∧ w' = w.setCell ⟨b, o + 1, none⟩ (.int .i64 ((n : Nat) : Int)) := by
  have h0 : (((n + 1 : Nat) : Int) == 0) = false := by simp; omega
  have h1 : ((n + 1 : Nat) : Int) - 1 = ((n : Nat) : Int) := by omega
  generalize ((n + 1 : Nat) : Int) = N at *
  have hN : N = n + 1 := by omega
  go_enter Try.func69, Try.ntmps69
  go_wp2_with fail
  go_ret
  exact ⟨rfl, rfl⟩
end Go.Proofs.Ytlhamckpgijjmaa
namespace Go.Proofs.Ytlhamckpgijjmaa
open Go.RowKit
set_option linter.unusedVariables false

/-- Whether a due step comes; what is left of it then. -/
def duF (s : Bool) (a : Nat) : Bool := s && (a == 0)
def duS (s : Bool) (a : Nat) : Bool := s && (a != 0)
def duA (s : Bool) (a : Nat) : Nat := if s then a - 1 else a
theorem duA_le {s : Bool} {a N : Nat} (h : a ≤ N) : duA s a ≤ N := by unfold duA; split <;> omega
/-- A step's error, and the tape behind it. -/
def stN (S : TS) : Nat := if S.down then 5 else if duF S.os S.oa then 5 else if duF S.rs S.ra then 6 else 0
def stS (S : TS) : TS := if S.down then S else if duF S.os S.oa then { S with os := duS S.os S.oa, oa := duA S.os S.oa, down := true } else { S with os := duS S.os S.oa, oa := duA S.os S.oa, steps := S.steps + 1, rs := duS S.rs S.ra, ra := duA S.rs S.ra }
theorem outage_any (base b : Nat) (v : Value) (S : TS) (w : World) (h : Tp w base b v S) :
    Calls Try.prog 69 #[.pointer (some ⟨b, 3, none⟩)] w fun e w' => e = .returned (.bool (duF S.os S.oa)) ∧ Tp w' base b v { S with os := duS S.os S.oa, oa := duA S.os S.oa } ∧ Chg b w w' := by
  obtain ⟨l, sure, steps, os, oa, rs, ra, down⟩ := S
  have hc3 := h.oct.c3
  have hc4 := h.oct.c4
  have ho := h.bo
  have hr := h.br
  dsimp only at hc3 hc4 ho hr
  cases os with
  | false => exact (comes_no b 3 w hc3).mono fun e w' ⟨he, hw⟩ => ⟨he, by subst hw; exact h, by subst hw; exact Chg.refl _ _⟩
  | true =>
    cases oa with
    | zero =>
      exact (comes_yes b 3 w hc3 hc4 (h.frozen 3) (h.frozen 4)).mono fun e w' ⟨he, hw⟩ => ⟨he, by subst hw; exact h.chg ((h.blk.set 3 _).set 4 _) ((chg_set _ _ _ _).trans (chg_set _ _ _ _)) rfl h.sure (by simp [duA]) hr, by subst hw; exact (chg_set _ _ _ _).trans (chg_set _ _ _ _)⟩
    | succ n =>
      exact (comes_near b 3 n w (by omega) hc3 hc4 (h.frozen 3) (h.frozen 4)).mono fun e w' ⟨he, hw⟩ => ⟨he, by subst hw; exact h.chg (h.blk.set 4 _) (chg_set _ _ _ _) rfl h.sure (by simp [duA]; omega) hr, by subst hw; exact chg_set _ _ _ _⟩
theorem refusal_any (base b : Nat) (v : Value) (S : TS) (w : World) (h : Tp w base b v S) :
    Calls Try.prog 69 #[.pointer (some ⟨b, 5, none⟩)] w fun e w' => e = .returned (.bool (duF S.rs S.ra)) ∧ Tp w' base b v { S with rs := duS S.rs S.ra, ra := duA S.rs S.ra } ∧ Chg b w w' := by
  obtain ⟨l, sure, steps, os, oa, rs, ra, down⟩ := S
  have hc3 := h.oct.c5
  have hc4 := h.oct.c6
  have ho := h.bo
  have hr := h.br
  dsimp only at hc3 hc4 ho hr
  cases rs with
  | false => exact (comes_no b 5 w hc3).mono fun e w' ⟨he, hw⟩ => ⟨he, by subst hw; exact h, by subst hw; exact Chg.refl _ _⟩
  | true =>
    cases ra with
    | zero =>
      exact (comes_yes b 5 w hc3 hc4 (h.frozen 5) (h.frozen 6)).mono fun e w' ⟨he, hw⟩ => ⟨he, by subst hw; exact h.chg ((h.blk.set 5 _).set 6 _) ((chg_set _ _ _ _).trans (chg_set _ _ _ _)) rfl h.sure ho (by simp [duA]), by subst hw; exact (chg_set _ _ _ _).trans (chg_set _ _ _ _)⟩
    | succ n =>
      exact (comes_near b 5 n w (by omega) hc3 hc4 (h.frozen 5) (h.frozen 6)).mono fun e w' ⟨he, hw⟩ => ⟨he, by subst hw; exact h.chg (h.blk.set 6 _) (chg_set _ _ _ _) rfl h.sure ho (by simp [duA]; omega), by subst hw; exact chg_set _ _ _ _⟩
set_option maxHeartbeats 400000 in
theorem step_any (base b : Nat) (v : Value) (S : TS) (w : World) (h : Tp w base b v S) (hst : S.steps < 4611686018427387904) :
    Calls Try.prog 52 #[tptr b] w fun e w' => e = .returned (errV (stN S)) ∧ Tp w' base b v (stS S) ∧ Chg b w w' := by
  have hc7 := h.oct.c7
  by_cases hd : S.down = true
  · have hN : Hid (stN S = 5) := by show _ = _; unfold stN; rw [if_pos hd]
    have hS : Hid (stS S = S) := by show _ = _; unfold stS; rw [if_pos hd]
    rw [hd] at hc7
    go_enter Try.func52, Try.ntmps52
    go_wp2_with (go_at_call 16; refine (down_any b _ _ hc7).mono ?_; rintro e W1 ⟨rfl, rfl⟩)
    go_ret
    exact ⟨by rw [hN.out]; rfl, by rw [hS.out]; exact h, Chg.refl _ _⟩
  · have hd' : S.down = false := by simpa using hd
    rw [hd'] at hc7
    by_cases hf : duF S.os S.oa = true
    · have hN : Hid (stN S = 5) := by show _ = _; unfold stN; rw [if_neg hd, if_pos hf]
      have hS : Hid (stS S = { S with os := duS S.os S.oa, oa := duA S.os S.oa, down := true }) := by show _ = _; unfold stS; rw [if_neg hd, if_pos hf]
      go_enter Try.func52, Try.ntmps52
      go_wp2_with (first
        | (go_at_call 16; refine (down_any b _ _ hc7).mono ?_; rintro e W1 ⟨rfl, rfl⟩)
        | (go_at_call 69; refine (outage_any base b v S _ h).mono ?_; rintro e W2 ⟨rfl, h2, k2⟩; rw [hf]; have c7' := h2.oct.c7; have f7' := h2.frozen 7))
      go_ret
      exact ⟨by rw [hN.out]; rfl, by rw [hS.out]; exact h2.chg (h2.blk.set 7 _) (chg_set _ _ _ _) rfl h2.sure h2.bo h2.br, k2.trans (chg_set _ _ _ _)⟩
    · have hf' : duF S.os S.oa = false := by simpa using hf
      have hS : Hid (stS S = { S with os := duS S.os S.oa, oa := duA S.os S.oa, steps := S.steps + 1, rs := duS S.rs S.ra, ra := duA S.rs S.ra }) := by show _ = _; unfold stS; rw [if_neg hd, if_neg hf]
      have hN : Hid (stN S = if duF S.rs S.ra then 6 else 0) := by show _ = _; unfold stN; rw [if_neg hd, if_neg hf]
      go_enter Try.func52, Try.ntmps52
      go_upto_region 7 with (first
        | (go_at_call 16; refine (down_any b _ _ hc7).mono ?_; rintro e W1 ⟨rfl, rfl⟩)
        | (go_at_call 69; refine (outage_any base b v S _ h).mono ?_; rintro e W2 ⟨rfl, h2, k2⟩; rw [hf']; have c2' : W2.cell? ⟨b, 2, none⟩ = some (.int .i64 ((S.steps : Nat) : Int)) := h2.oct.c2; have f2' := h2.frozen 2))
      have h3 := h2.chg (S' := { S with os := duS S.os S.oa, oa := duA S.os S.oa, steps := S.steps + 1 }) (h2.blk.set 2 (.int .i64 ((S.steps + 1 : Nat) : Int))) (chg_set W2 b 2 _) rfl h2.sure h2.bo h2.br
      have k3 : Chg b _ (W2.setCell ⟨b, 2, none⟩ (.int .i64 ((S.steps + 1 : Nat) : Int))) := k2.trans (chg_set W2 b 2 _)
      have he : (.int .i64 ((S.steps : Int) + 1) : Value) = .int .i64 ((S.steps + 1 : Nat) : Int) := by congr 1
      rw [he]
      generalize W2.setCell ⟨b, 2, none⟩ (.int .i64 ((S.steps + 1 : Nat) : Int)) = W3 at *
      clear he c2' f2' h2 k2
      cases hg : duF S.rs S.ra with
      | true =>
        rw [hg] at hN
        go_wp2_with (go_at_call 69; refine (refusal_any base b v _ _ h3).mono ?_; rintro e W4 ⟨rfl, h4, k4⟩; dsimp only; rw [hg])
        go_ret
        exact ⟨by rw [hN.out]; rfl, by rw [hS.out]; exact h4, k3.trans k4⟩
      | false =>
        rw [hg] at hN
        go_wp2_with (go_at_call 69; refine (refusal_any base b v _ _ h3).mono ?_; rintro e W4 ⟨rfl, h4, k4⟩; dsimp only; rw [hg])
        go_ret
        exact ⟨by rw [hN.out]; rfl, by rw [hS.out]; exact h4, k3.trans k4⟩
set_option maxHeartbeats 400000 in
theorem fit_any (v : Value) (vs : List Value) (ls : List (List Nat)) (R : Nat) (w : World) (hv : Ls w v vs ls) (hR : R ≤ 1048576) :
    Calls Try.prog 79 #[v, .int .i64 ((R : Nat) : Int)] w fun e w' => e = .returned (.bool (decide (ls.flatten.length ≤ R))) ∧ w' = w := by
  obtain ⟨q, cap, g, off, rfl, hc, hm, hp, hg, hr⟩ := hv.open
  obtain ⟨hlen, -, hE⟩ := hv
  generalize hn : ls.length = n at *
  go_enter Try.func79, Try.ntmps79
  go_wp2_with fail
  go_loopw [1, 9] (fun s i wr => ∃ k r : Nat, k ≤ n ∧ i = .int .i64 (k : Int) ∧ s = .int .i64 ((r : Nat) : Int) ∧ r + (ls.take k).flatten.length = R ∧ wr = w) (fun _ i _ => n - (intOf i).toNat)
  case atStart => exact ⟨0, R, by omega, rfl, rfl, by simp, rfl⟩
  case round =>
    obtain ⟨k, r, hk, rfl, rfl, hs, rfl⟩ := hrel
    by_cases c : k = n
    · subst c
      rw [List.take_of_length_le (by omega)] at hs
      have HD : Hid (decide (ls.flatten.length ≤ R) = true) := decide_eq_true (by omega)
      clear hp hg hr hE
      go_wp2_with fail
      go_ret
      exact ⟨by rw [HD.out]; rfl, rfl⟩
    · obtain ⟨y, hy⟩ : ∃ y, vs[k]? = some y := ⟨vs[k], List.getElem?_eq_getElem (by omega)⟩
      obtain ⟨l, hl⟩ : ∃ l, ls[k]? = some l := ⟨ls[k], List.getElem?_eq_getElem (by omega)⟩
      obtain rfl := hp (by omega)
      have d := hr k y hy
      obtain ⟨q2, cap2, g2, off2, rfl, hc2, hm2, hp2, hg2, hr2⟩ := (hE k y l hy hl).open
      have hki : (k : Int) < (n : Int) := by omega
      have hkn : k < n := by omega
      have HF := flat_len ls k l hl
      have HM := flat_mono ls (k + 1)
      generalize hA : (ls.take k).flatten.length = A at *
      generalize hA2 : (ls.take (k + 1)).flatten.length = A2 at *
      generalize hn2 : l.length = n2 at *
      clear hr hp hg hy hE hl hr2 hp2 hg2
      by_cases c1 : r < n2
      · have HD : Hid (decide (ls.flatten.length ≤ R) = false) := decide_eq_false (by omega)
        have c1' : (r : Int) < (n2 : Int) := by omega
        go_wp2_with fail
        go_ret
        exact ⟨by rw [HD.out]; rfl, rfl⟩
      · have c1' : ¬ (r : Int) < (n2 : Int) := by omega
        go_wp2_with fail
        refine ⟨⟨k + 1, r - n2, by omega, rfl, ?_, by omega, trivial⟩, by simp only [intOf]; omega⟩
        congr 1
        omega
end Go.Proofs.Ytlhamckpgijjmaa
