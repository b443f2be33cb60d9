/-
  A tape in memory: its struct's cells, and its bytes as a slice of the call's own.
  tape's small functions: New, Sure, Steps, Down, room, Read, comes, step, fit.
  tape's step and fit.
  tape.Append: what stays as it is while a tape turns; the loop that appends.
  tape's Sync, Replace, Arm, Fail.
  tape's Cut and Crash.
  A tape that is up and not armed: its calls in short; a nil tape; alive.
  estuarylaw06.alive.
-/
import Derived.Test.YthmolbcnbcajdaaGreatPk30
import Derived.Test.YthmolbcnbcajdaaGreatPk24
import Derived.Test.YthmolbcnbcajdaaGreatPk22
import Derived.Test.YthmolbcnbcajdaaGreatPk21
import Derived.Test.YthmolbcnbcajdaaGreatPk06
namespace Go.Proofs.YthmolbcnbcajdaaGreat
set_option maxRecDepth 100000
open Go.RowKit
set_option linter.unusedVariables false

/-- What a tape holds: bytes, how many are sure, steps, the outage, the refusal, down. -/
structure TS where
  l : List Nat
  sure : Nat
  steps : Nat
  os : Bool
  oa : Nat
  rs : Bool
  ra : Nat
  down : Bool
def tcs (v : Value) (S : TS) : Array Value := #[v, .int .i64 ((S.sure : Nat) : Int), .int .i64 ((S.steps : Nat) : Int), .bool S.os, .int .i64 ((S.oa : Nat) : Int), .bool S.rs, .int .i64 ((S.ra : Nat) : Int), .bool S.down]
/-- A tape at block b. -/
structure Tp (W : World) (base b : Nat) (v : Value) (S : TS) : Prop where
  ge : base ≤ b
  blk : Blk W b (tcs v S) 72
  own : W.ownsRow base 5 1 v S.l.length (bys S.l)
  sure : S.sure ≤ S.l.length
  max : S.l.length ≤ 1048576
  bo : S.oa ≤ 9223372036854775807
  br : S.ra ≤ 9223372036854775807
theorem Tp.lt {W : World} {base b : Nat} {v : Value} {S : TS} (h : Tp W base b v S) : base < W.heap.size := Nat.lt_of_le_of_lt h.ge h.blk.lt
theorem Tp.below {W W' : World} {base b : Nat} {v v' : Value} {S : TS} (h : Tp W base b v S) (m : Mv b W W' v v') : Below base W W' :=
  ⟨m.os, m.tape, m.output, m.size, fun k hk => m.other k (Nat.lt_trans hk h.lt) (by have := h.ge; omega) (fun e => by have := (h.own.lt k e).1; omega)⟩
theorem Tp.apart {W : World} {base b : Nat} {v : Value} {S : TS} (h : Tp W base b v S) : v.ownBlock ≠ some b := blk_own h.own h.blk (by decide)
theorem Tp.keep {W W' : World} {base b : Nat} {v : Value} {S : TS} (h : Tp W base b v S) (hb : Below W.heap.size W W') : Tp W' base b v S :=
  ⟨h.ge, h.blk.keep hb, own_keep h.own hb, h.sure, h.max, h.bo, h.br⟩
theorem Tp.less {W : World} {base base' b : Nat} {v : Value} {S : TS} (h : Tp W base b v S) (hb : base' ≤ base) : Tp W base' b v S :=
  ⟨Nat.le_trans hb h.ge, h.blk, own_less h.own hb, h.sure, h.max, h.bo, h.br⟩
theorem Tp.sl {W : World} {base b : Nat} {v : Value} {S : TS} (h : Tp W base b v S) : Sl W v S.l := (own_sl h.own).2
/-- Numbers of it have turned: its bytes are the same. -/
theorem Tp.chg {W W' : World} {base b : Nat} {v : Value} {S S' : TS} (h : Tp W base b v S) (hB : Blk W' b (tcs v S') 72) (hc : Chg b W W') (hl : S'.l = S.l) (hs : S'.sure ≤ S.l.length) (ho : S'.oa ≤ 9223372036854775807) (hr : S'.ra ≤ 9223372036854775807) : Tp W' base b v S' :=
  ⟨h.ge, hB, by rw [hl]; exact own_chgT h.own hc h.apart, by rw [hl]; exact hs, by rw [hl]; exact h.max, ho, hr⟩
/-- The eight cells of a tape. -/
structure Oct (W : World) (b : Nat) (v : Value) (S : TS) : Prop where
  c0 : W.cell? ⟨b, 0, none⟩ = some v
  c1 : W.cell? ⟨b, 1, none⟩ = some (.int .i64 ((S.sure : Nat) : Int))
  c2 : W.cell? ⟨b, 2, none⟩ = some (.int .i64 ((S.steps : Nat) : Int))
  c3 : W.cell? ⟨b, 3, none⟩ = some (.bool S.os)
  c4 : W.cell? ⟨b, 4, none⟩ = some (.int .i64 ((S.oa : Nat) : Int))
  c5 : W.cell? ⟨b, 5, none⟩ = some (.bool S.rs)
  c6 : W.cell? ⟨b, 6, none⟩ = some (.int .i64 ((S.ra : Nat) : Int))
  c7 : W.cell? ⟨b, 7, none⟩ = some (.bool S.down)
theorem Tp.oct {W : World} {base b : Nat} {v : Value} {S : TS} (h : Tp W base b v S) : Oct W b v S :=
  ⟨h.blk.at rfl, h.blk.at rfl, h.blk.at rfl, h.blk.at rfl, h.blk.at rfl, h.blk.at rfl, h.blk.at rfl, h.blk.at rfl⟩
theorem Tp.frozen {W : World} {base b : Nat} {v : Value} {S : TS} (h : Tp W base b v S) (i : Nat) : W.frozen? ⟨b, i, none⟩ = false := h.blk.frozen i
theorem Tp.form {W : World} {base b : Nat} {v : Value} {S : TS} (h : Tp W base b v S) : ∃ q cap, v = .slice q S.l.length cap ∧ S.l.length ≤ cap ∧ cap ≤ 9223372036854775807 := by
  obtain ⟨q, cap, g, off, e, h1, h2, _⟩ := h.sl.open
  exact ⟨q, cap, e, h1, h2⟩

/-- append of bytes onto an own slice: its run, wherever the slice may lie. -/
theorem app_runB {w : World} (base : Nat) (ty : TypeId) {v vx : Value} {n k : Nat} {l m : List Nat} (hown : w.ownsRow base 5 1 v n (bys l)) (hsl : Sl w vx m) (hm : m.length = k) (h63 : n + k ≤ 4000000) (hA : base ≤ w.heap.size) :
    ∃ v' w', (Builtin.append_ #[68, 68] ty #[v, vx]).run Tryz.prog w = .ok v' w' ∧ w'.ownsRow base 5 1 v' (n + k) (bys (l ++ m)) ∧ w.grownBy w' v.ownBlock ∧ (v'.ownBlock = v.ownBlock ∨ v'.ownBlock = some w.heap.size) := by
  obtain ⟨i, hi, hz0, hz1, hz2⟩ := info_parts infoByte
  subst hm
  obtain ⟨q, cap, rfl, hq, hsrc⟩ := hsl.src
  cases q with
  | none =>
    have h0 := hq rfl
    have hm0 : m = [] := List.eq_nil_of_length_eq_zero h0
    subst hm0
    exact ⟨v, w, append_none (P := Tryz.prog) w base 68 ty 5 i 1 cap Tryz.underlying68 hi v n (bys l) hown, by simpa using hown, ⟨rfl, rfl, rfl, Nat.le_refl _, fun _ _ _ => rfl⟩, .inl rfl⟩
  | some ad =>
    obtain ⟨v', w', hr, h2, h3, h4, h5⟩ := run_append_own_at (P := Tryz.prog) w base 68 ty 5 i _ 1 1 Tryz.underlying68 hi hz0 hz1 hz2 rfl (by omega) v n (bys l) hown ad m.length cap (bys m) (by rw [bys_len, Nat.mul_one]) (hsrc ad rfl) (bys_one m) (by unfold maxLen; omega) (by omega) hA
    exact ⟨v', w', hr, by rw [← bys_append]; exact h2, h3, h5⟩
theorem app_t {ops : Array Oper} {rest : List Oper} {o : Oper} {a : Act} {w : World} {Q : Exit → Act → World → Prop} (base : Nat) (hw : Region.wanted o (yielded ops a.tmps) = true) {s x : Operand} (ho : o.op = .call { callee := .builtin .append, args := #[s, x], argTypes := #[68, 68] })
    {v vx : Value} {n k : Nat} {l m : List Nat} (hs : a.eval s = v) (hown : w.ownsRow base 5 1 v n (bys l)) (hx : a.eval x = vx) (hsl : Sl w vx m) (hm : m.length = k) (h63 : n + k ≤ 4000000) (hA : base ≤ w.heap.size)
    (h : ∀ v' w', w'.ownsRow base 5 1 v' (n + k) (bys (l ++ m)) → w.grownBy w' v.ownBlock → (v'.ownBlock = v.ownBlock ∨ v'.ownBlock = some w.heap.size) → wpList Tryz.prog ops Q rest (a.put o.dst v') w') : wpList Tryz.prog ops Q (o :: rest) a w := by
  obtain ⟨v', w', hr, h1, h2, h3⟩ := app_runB base o.type hown hsl hm h63 hA
  unfold wpList
  rw [if_pos hw]
  left
  unfold Oper.wp execOp
  simp only [ho, resolve, invoke, builtin, Sem.run_bind, Sem.run_pure, Result.andThen_ok, List.map_toArray, List.map_cons, List.map_nil, hs, hx, hr]
  exact h v' w' h1 h2 h3
theorem below_own {w w' : World} {base : Nat} {v : Value} {n : Nat} {xs : List Value} (h : w.ownsRow base 5 1 v n xs) (hA : base ≤ w.heap.size) (hg : w.grownBy w' v.ownBlock) : Below base w w' :=
  (Below.refl _ _).grown hg hA (fun r hr => (h.lt r hr).1)
set_option maxHeartbeats 400000 in
theorem clone_big (v : Value) (l : List Nat) (w : World) (hv : Sl w v l) (hn : l.length ≤ 4000000) :
    Calls Tryz.prog 62 #[v] w fun e w' => ∃ v', e = .returned v' ∧ w'.ownsRow w.heap.size 5 1 v' l.length (bys l) ∧ Below w.heap.size w w' := by
  obtain ⟨q, cap, g, off, rfl, hc, hm, hp, hg, hr⟩ := hv.open
  cases q with
  | none =>
    have h0 : ¬ 0 < l.length := fun h => by have := hp h; cases this
    have : l = [] := List.eq_nil_of_length_eq_zero (by omega)
    subst this
    clear hv hr hp hg
    have he := eq_nil none 0 cap w
    go_enter Tryz.func62, Tryz.ntmps62
    go_wp2_with fail
    go_ret
    exact ⟨_, rfl, World.ownsRow_nil w _ _ _, Below.refl _ _⟩
  | some ad =>
    clear hr hp hg
    generalize hl : l.length = n at *
    have he := eq_nil (some ad) n cap w
    go_enter Tryz.func62, Tryz.ntmps62
    go_wp2_with (first
        | (refine bs_by rfl rfl [] (vs := #[]) (by simp) (bsb0 _) rfl (by decide) ?_; intro W1 hN b1 z1)
        | (at_builtin; refine app_t w.heap.size rfl rfl rfl hN rfl (hv.keep b1) hl (by omega) b1.size ?_; intro v' W2 hown2 hgr2 hat2))
    go_ret
    exact ⟨_, rfl, by simpa using hown2, b1.trans (below_own hN b1.size hgr2)⟩
end Go.Proofs.YthmolbcnbcajdaaGreat
namespace Go.Proofs.YthmolbcnbcajdaaGreat
set_option maxRecDepth 100000
open Go.RowKit
set_option linter.unusedVariables false

abbrev tptr (b : Nat) : Value := .pointer (some ⟨b, 0, none⟩)
/-- A new tape. -/
abbrev ts0 : TS := ⟨[], 0, 0, false, 0, false, 0, false⟩
theorem new_any (w : World) : Calls Tryz.prog 11 #[] w fun e w' => e = .returned (tptr w.heap.size) ∧ Tp w' w.heap.size w.heap.size (.slice none 0 0) ts0 ∧ Below w.heap.size w w' := by
  go_enter Tryz.func11, Tryz.ntmps11
  go_wp2_with fail
  go_ret
  exact ⟨rfl, ⟨Nat.le_refl _, Blk.new _ _ _, World.ownsRow_nil _ _ _ _, Nat.le_refl _, by simp, by simp, by simp⟩, (Below.refl _ _).alloc (Nat.le_refl _) _⟩
theorem down_any (b : Nat) (x : Bool) (w : World) (c7 : w.cell? ⟨b, 7, none⟩ = some (.bool x)) :
    Calls Tryz.prog 39 #[tptr b] w fun e w' => e = .returned (.bool x) ∧ w' = w := by
  go_enter Tryz.func39, Tryz.ntmps39
  go_wp2_with fail
  go_ret
  exact ⟨rfl, rfl⟩
theorem room_any (b : Nat) (q : Option Addr) (n cap : Nat) (w : World) (c0 : w.cell? ⟨b, 0, none⟩ = some (.slice q n cap)) (hn : n ≤ 1048576) :
    Calls Tryz.prog 100 #[tptr b] w fun e w' => e = .returned (.int .i64 ((1048576 - n : Nat) : Int)) ∧ w' = w := by
  go_enter Tryz.func100, Tryz.ntmps100
  go_wp2_with fail
  go_ret
  exact ⟨ret_int (by omega), rfl⟩
theorem tread_any (base b : Nat) (v : Value) (S : TS) (w : World) (h : Tp w base b v S) :
    Calls Tryz.prog 40 #[tptr b] w fun e w' => ∃ v', e = .returned v' ∧ Ow w' w.heap.size v' S.l ∧ Below w.heap.size w w' := by
  have c0 := h.oct.c0
  have hs := h.sl
  have hm := h.max
  go_enter Tryz.func40, Tryz.ntmps40
  go_wp2_with (go_at_call 62; refine (clone_big _ _ _ hs (by omega)).mono ?_; rintro e W1 ⟨v1, rfl, hown, hb⟩)
  go_ret
  exact ⟨_, rfl, ow_of hown, hb⟩
theorem comes_no (b o : Nat) (w : World) (c : w.cell? ⟨b, o, none⟩ = some (.bool false)) :
    Calls Tryz.prog 89 #[.pointer (some ⟨b, o, none⟩)] w fun e w' => e = .returned (.bool false) ∧ w' = w := by
  go_enter Tryz.func89, Tryz.ntmps89
  go_wp2_with fail
  go_ret
  exact ⟨rfl, rfl⟩
theorem comes_yes (b o : Nat) (w : World) (c : w.cell? ⟨b, o, none⟩ = some (.bool true)) (c' : w.cell? ⟨b, o + 1, none⟩ = some (.int .i64 0)) (f : w.frozen? ⟨b, o, none⟩ = false) (f' : w.frozen? ⟨b, o + 1, none⟩ = false) :
    Calls Tryz.prog 89 #[.pointer (some ⟨b, o, none⟩)] w fun e w' => e = .returned (.bool true) ∧ w' = (w.setCell ⟨b, o, none⟩ (.bool false)).setCell ⟨b, o + 1, none⟩ (.int .i64 0) := by
  go_enter Tryz.func89, Tryz.ntmps89
  go_wp2_with fail
  go_ret
  exact ⟨rfl, rfl⟩
theorem comes_near (b o n : Nat) (w : World) (hn : n < 9223372036854775807) (c : w.cell? ⟨b, o, none⟩ = some (.bool true)) (c' : w.cell? ⟨b, o + 1, none⟩ = some (.int .i64 ((n + 1 : Nat) : Int))) (f : w.frozen? ⟨b, o, none⟩ = false) (f' : w.frozen? ⟨b, o + 1, none⟩ = false) :
    Calls Tryz.prog 89 #[.pointer (some ⟨b, o, none⟩)] w fun e w' => e = .returned (.bool false) ∧ w' = w.setCell ⟨b, o + 1, none⟩ (.int .i64 ((n : Nat) : Int)) := by
  have h0 : (((n + 1 : Nat) : Int) == 0) = false := by simp; omega
  have h1 : ((n + 1 : Nat) : Int) - 1 = ((n : Nat) : Int) := by omega
  generalize ((n + 1 : Nat) : Int) = N at *
  have hN : N = n + 1 := by omega
  go_enter Tryz.func89, Tryz.ntmps89
  go_wp2_with fail
  go_ret
  exact ⟨rfl, rfl⟩
end Go.Proofs.YthmolbcnbcajdaaGreat
namespace Go.Proofs.YthmolbcnbcajdaaGreat
set_option maxRecDepth 100000
open Go.RowKit
set_option linter.unusedVariables false

/-- Whether a due step comes; what is left of it then. -/
def duF (s : Bool) (a : Nat) : Bool := s && (a == 0)
def duS (s : Bool) (a : Nat) : Bool := s && (a != 0)
def duA (s : Bool) (a : Nat) : Nat := if s then a - 1 else a
theorem duA_le {s : Bool} {a N : Nat} (h : a ≤ N) : duA s a ≤ N := by unfold duA; split <;> omega
/-- A step's error, and the tape behind it. -/
def stN (S : TS) : Nat := if S.down then 5 else if duF S.os S.oa then 5 else if duF S.rs S.ra then 6 else 0
def stS (S : TS) : TS := if S.down then S else if duF S.os S.oa then { S with os := duS S.os S.oa, oa := duA S.os S.oa, down := true } else { S with os := duS S.os S.oa, oa := duA S.os S.oa, steps := S.steps + 1, rs := duS S.rs S.ra, ra := duA S.rs S.ra }
theorem outage_any (base b : Nat) (v : Value) (S : TS) (w : World) (h : Tp w base b v S) :
    Calls Tryz.prog 89 #[.pointer (some ⟨b, 3, none⟩)] w fun e w' => e = .returned (.bool (duF S.os S.oa)) ∧ Tp w' base b v { S with os := duS S.os S.oa, oa := duA S.os S.oa } ∧ Chg b w w' := by
  obtain ⟨l, sure, steps, os, oa, rs, ra, down⟩ := S
  have hc3 := h.oct.c3
  have hc4 := h.oct.c4
  have ho := h.bo
  have hr := h.br
  dsimp only at hc3 hc4 ho hr
  cases os with
  | false => exact (comes_no b 3 w hc3).mono fun e w' ⟨he, hw⟩ => ⟨he, by subst hw; exact h, by subst hw; exact Chg.refl _ _⟩
  | true =>
    cases oa with
    | zero =>
      exact (comes_yes b 3 w hc3 hc4 (h.frozen 3) (h.frozen 4)).mono fun e w' ⟨he, hw⟩ => ⟨he, by subst hw; exact h.chg ((h.blk.set 3 _).set 4 _) ((chg_set _ _ _ _).trans (chg_set _ _ _ _)) rfl h.sure (by simp [duA]) hr, by subst hw; exact (chg_set _ _ _ _).trans (chg_set _ _ _ _)⟩
    | succ n =>
      exact (comes_near b 3 n w (by omega) hc3 hc4 (h.frozen 3) (h.frozen 4)).mono fun e w' ⟨he, hw⟩ => ⟨he, by subst hw; exact h.chg (h.blk.set 4 _) (chg_set _ _ _ _) rfl h.sure (by simp [duA]; omega) hr, by subst hw; exact chg_set _ _ _ _⟩
theorem refusal_any (base b : Nat) (v : Value) (S : TS) (w : World) (h : Tp w base b v S) :
    Calls Tryz.prog 89 #[.pointer (some ⟨b, 5, none⟩)] w fun e w' => e = .returned (.bool (duF S.rs S.ra)) ∧ Tp w' base b v { S with rs := duS S.rs S.ra, ra := duA S.rs S.ra } ∧ Chg b w w' := by
  obtain ⟨l, sure, steps, os, oa, rs, ra, down⟩ := S
  have hc3 := h.oct.c5
  have hc4 := h.oct.c6
  have ho := h.bo
  have hr := h.br
  dsimp only at hc3 hc4 ho hr
  cases rs with
  | false => exact (comes_no b 5 w hc3).mono fun e w' ⟨he, hw⟩ => ⟨he, by subst hw; exact h, by subst hw; exact Chg.refl _ _⟩
  | true =>
    cases ra with
    | zero =>
      exact (comes_yes b 5 w hc3 hc4 (h.frozen 5) (h.frozen 6)).mono fun e w' ⟨he, hw⟩ => ⟨he, by subst hw; exact h.chg ((h.blk.set 5 _).set 6 _) ((chg_set _ _ _ _).trans (chg_set _ _ _ _)) rfl h.sure ho (by simp [duA]), by subst hw; exact (chg_set _ _ _ _).trans (chg_set _ _ _ _)⟩
    | succ n =>
      exact (comes_near b 5 n w (by omega) hc3 hc4 (h.frozen 5) (h.frozen 6)).mono fun e w' ⟨he, hw⟩ => ⟨he, by subst hw; exact h.chg (h.blk.set 6 _) (chg_set _ _ _ _) rfl h.sure ho (by simp [duA]; omega), by subst hw; exact chg_set _ _ _ _⟩
set_option maxHeartbeats 400000 in
theorem step_any (base b : Nat) (v : Value) (S : TS) (w : World) (h : Tp w base b v S) (hst : S.steps < 4611686018427387904) :
    Calls Tryz.prog 64 #[tptr b] w fun e w' => e = .returned (errV (stN S)) ∧ Tp w' base b v (stS S) ∧ Chg b w w' := by
  have hc7 := h.oct.c7
  by_cases hd : S.down = true
  · have hN : Hid (stN S = 5) := by show _ = _; unfold stN; rw [if_pos hd]
    have hS : Hid (stS S = S) := by show _ = _; unfold stS; rw [if_pos hd]
    rw [hd] at hc7
    go_enter Tryz.func64, Tryz.ntmps64
    go_wp2_with (go_at_call 39; refine (down_any b _ _ hc7).mono ?_; rintro e W1 ⟨rfl, rfl⟩)
    go_ret
    exact ⟨by rw [hN.out]; rfl, by rw [hS.out]; exact h, Chg.refl _ _⟩
  · have hd' : S.down = false := by simpa using hd
    rw [hd'] at hc7
    by_cases hf : duF S.os S.oa = true
    · have hN : Hid (stN S = 5) := by show _ = _; unfold stN; rw [if_neg hd, if_pos hf]
      have hS : Hid (stS S = { S with os := duS S.os S.oa, oa := duA S.os S.oa, down := true }) := by show _ = _; unfold stS; rw [if_neg hd, if_pos hf]
      go_enter Tryz.func64, Tryz.ntmps64
      go_wp2_with (first
        | (go_at_call 39; refine (down_any b _ _ hc7).mono ?_; rintro e W1 ⟨rfl, rfl⟩)
        | (go_at_call 89; refine (outage_any base b v S _ h).mono ?_; rintro e W2 ⟨rfl, h2, k2⟩; rw [hf]; have c7' := h2.oct.c7; have f7' := h2.frozen 7))
      go_ret
      exact ⟨by rw [hN.out]; rfl, by rw [hS.out]; exact h2.chg (h2.blk.set 7 _) (chg_set _ _ _ _) rfl h2.sure h2.bo h2.br, k2.trans (chg_set _ _ _ _)⟩
    · have hf' : duF S.os S.oa = false := by simpa using hf
      have hS : Hid (stS S = { S with os := duS S.os S.oa, oa := duA S.os S.oa, steps := S.steps + 1, rs := duS S.rs S.ra, ra := duA S.rs S.ra }) := by show _ = _; unfold stS; rw [if_neg hd, if_neg hf]
      have hN : Hid (stN S = if duF S.rs S.ra then 6 else 0) := by show _ = _; unfold stN; rw [if_neg hd, if_neg hf]
      go_enter Tryz.func64, Tryz.ntmps64
      go_upto_region 7 with (first
        | (go_at_call 39; refine (down_any b _ _ hc7).mono ?_; rintro e W1 ⟨rfl, rfl⟩)
        | (go_at_call 89; refine (outage_any base b v S _ h).mono ?_; rintro e W2 ⟨rfl, h2, k2⟩; rw [hf']; have c2' : W2.cell? ⟨b, 2, none⟩ = some (.int .i64 ((S.steps : Nat) : Int)) := h2.oct.c2; have f2' := h2.frozen 2))
      have h3 := h2.chg (S' := { S with os := duS S.os S.oa, oa := duA S.os S.oa, steps := S.steps + 1 }) (h2.blk.set 2 (.int .i64 ((S.steps + 1 : Nat) : Int))) (chg_set W2 b 2 _) rfl h2.sure h2.bo h2.br
      have k3 : Chg b _ (W2.setCell ⟨b, 2, none⟩ (.int .i64 ((S.steps + 1 : Nat) : Int))) := k2.trans (chg_set W2 b 2 _)
      have he : (.int .i64 ((S.steps : Int) + 1) : Value) = .int .i64 ((S.steps + 1 : Nat) : Int) := by congr 1
      rw [he]
      generalize W2.setCell ⟨b, 2, none⟩ (.int .i64 ((S.steps + 1 : Nat) : Int)) = W3 at *
      clear he c2' f2' h2 k2
      cases hg : duF S.rs S.ra with
      | true =>
        rw [hg] at hN
        go_wp2_with (go_at_call 89; refine (refusal_any base b v _ _ h3).mono ?_; rintro e W4 ⟨rfl, h4, k4⟩; dsimp only; rw [hg])
        go_ret
        exact ⟨by rw [hN.out]; rfl, by rw [hS.out]; exact h4, k3.trans k4⟩
      | false =>
        rw [hg] at hN
        go_wp2_with (go_at_call 89; refine (refusal_any base b v _ _ h3).mono ?_; rintro e W4 ⟨rfl, h4, k4⟩; dsimp only; rw [hg])
        go_ret
        exact ⟨by rw [hN.out]; rfl, by rw [hS.out]; exact h4, k3.trans k4⟩
set_option maxHeartbeats 400000 in
theorem fit_any (v : Value) (vs : List Value) (ls : List (List Nat)) (R : Nat) (w : World) (hv : Ls w v vs ls) (hR : R ≤ 1048576) :
    Calls Tryz.prog 99 #[v, .int .i64 ((R : Nat) : Int)] w fun e w' => e = .returned (.bool (decide (ls.flatten.length ≤ R))) ∧ w' = w := by
  obtain ⟨q, cap, g, off, rfl, hc, hm, hp, hg, hr⟩ := hv.open
  obtain ⟨hlen, -, hE⟩ := hv
  generalize hn : ls.length = n at *
  go_enter Tryz.func99, Tryz.ntmps99
  go_wp2_with fail
  go_loopw [1, 9] (fun s i wr => ∃ k r : Nat, k ≤ n ∧ i = .int .i64 (k : Int) ∧ s = .int .i64 ((r : Nat) : Int) ∧ r + (ls.take k).flatten.length = R ∧ wr = w) (fun _ i _ => n - (intOf i).toNat)
  case atStart => exact ⟨0, R, by omega, rfl, rfl, by simp, rfl⟩
  case round =>
    obtain ⟨k, r, hk, rfl, rfl, hs, rfl⟩ := hrel
    by_cases c : k = n
    · subst c
      rw [List.take_of_length_le (by omega)] at hs
      have HD : Hid (decide (ls.flatten.length ≤ R) = true) := decide_eq_true (by omega)
      clear hp hg hr hE
      go_wp2_with fail
      go_ret
      exact ⟨by rw [HD.out]; rfl, rfl⟩
    · obtain ⟨y, hy⟩ : ∃ y, vs[k]? = some y := ⟨vs[k], List.getElem?_eq_getElem (by omega)⟩
      obtain ⟨l, hl⟩ : ∃ l, ls[k]? = some l := ⟨ls[k], List.getElem?_eq_getElem (by omega)⟩
      obtain rfl := hp (by omega)
      have d := hr k y hy
      obtain ⟨q2, cap2, g2, off2, rfl, hc2, hm2, hp2, hg2, hr2⟩ := (hE k y l hy hl).open
      have hki : (k : Int) < (n : Int) := by omega
      have hkn : k < n := by omega
      have HF := flat_len ls k l hl
      have HM := flat_mono ls (k + 1)
      generalize hA : (ls.take k).flatten.length = A at *
      generalize hA2 : (ls.take (k + 1)).flatten.length = A2 at *
      generalize hn2 : l.length = n2 at *
      clear hr hp hg hy hE hl hr2 hp2 hg2
      by_cases c1 : r < n2
      · have HD : Hid (decide (ls.flatten.length ≤ R) = false) := decide_eq_false (by omega)
        have c1' : (r : Int) < (n2 : Int) := by omega
        go_wp2_with fail
        go_ret
        exact ⟨by rw [HD.out]; rfl, rfl⟩
      · have c1' : ¬ (r : Int) < (n2 : Int) := by omega
        go_wp2_with fail
        refine ⟨⟨k + 1, r - n2, by omega, rfl, ?_, by omega, trivial⟩, by simp only [intOf]; omega⟩
        congr 1
        omega
end Go.Proofs.YthmolbcnbcajdaaGreat
namespace Go.Proofs.YthmolbcnbcajdaaGreat
set_option maxRecDepth 100000
open Go.RowKit
set_option linter.unusedVariables false

/-- What lies in older memory. -/
theorem stb_old {W w : World} {base b : Nat} {v x : Value} {S : TS} {m : List Nat} (hT : Tp w base b v S) (hb : Below W.heap.size W w) (hW : W.heap.size ≤ base) (h : Sl W x m) : Stb b w v x m :=
  fun w' v' k => h.keep (hb.trans ((hT.below k).mono hW))
theorem stl_new {w w' : World} {base b n : Nat} {v : Value} {S : TS} (xs : List Value) (ls : List (List Nat)) (hT : Tp w base b v S) (hb : Below w.heap.size w w') (hB : Blk w' w.heap.size xs.toArray 68) (hn : xs.length = n) (hm : n ≤ maxLen) (hl : ls.length = n)
    (hE : ∀ (j : Nat) (x : Value) (l : List Nat), xs[j]? = some x → ls[j]? = some l → Stb b w v x l) : StL b w' v (.slice (some ⟨w.heap.size, 0, none⟩) n n) xs ls := by
  intro u v' k
  subst hn
  have hk := (mv_below v hb).trans k
  have h1 : w.heap.size ≠ b := by have := hT.blk.lt; omega
  have h2 : v.ownBlock ≠ some w.heap.size := fun e => by have := (hT.own.lt _ e).2; omega
  have hBu : Blk u w.heap.size xs.toArray 68 := by unfold Blk; rw [k.other _ hB.lt h1 h2]; exact hB
  refine ⟨hl.symm, ⟨_, _, rfl, Nat.le_refl _, hm, fun h0 => ⟨_, 0, rfl, hBu.lt, fun j x hx => ?_⟩⟩, fun j x l hx hl => hE j x l hx hl _ _ hk⟩
  rw [Nat.zero_add, hBu.cell j]
  simpa using hx
theorem stS_l (S : TS) : (stS S).l = S.l ∧ (stS S).sure = S.sure := by
  unfold stS
  split
  · exact ⟨rfl, rfl⟩
  · split <;> exact ⟨rfl, rfl⟩
/-- Append's error, and the tape behind it. -/
def apN (S : TS) (k : Nat) : Nat := if S.l.length + k ≤ 1048576 then stN S else 7
def apS (S : TS) (m : List Nat) : TS := if S.l.length + m.length ≤ 1048576 then (if stN S = 0 then { stS S with l := S.l ++ m } else stS S) else S
/-- Bytes behind its bytes. -/
theorem Tp.more {W W' : World} {base b n : Nat} {v v' : Value} {S : TS} {m : List Nat} (h : Tp W base b v S) (hown : W'.ownsRow base 5 1 v' n (bys (S.l ++ m))) (hB : Blk W' b (tcs v' S) 72) (hm : S.l.length + m.length ≤ 1048576) : Tp W' base b v' { S with l := S.l ++ m } := by
  have e : n = (S.l ++ m).length := ((own_sl hown).1).symm
  subst e
  have := h.sure
  exact ⟨h.ge, hB, hown, by show S.sure ≤ (S.l ++ m).length; rw [List.length_append]; omega, by show (S.l ++ m).length ≤ _; rw [List.length_append]; omega, h.bo, h.br⟩
theorem ne_err (n : Int) (w : World) : (binOp .neq 32 (Err n) .nilIface).run Tryz.prog w = .ok (.bool true) w := by kernel_rfl
set_option maxHeartbeats 1000000 in
theorem append_any (base b : Nat) (v vp : Value) (vs : List Value) (ls : List (List Nat)) (S : TS) (w : World) (h : Tp w base b v S) (hst : S.steps < 4611686018427387904) (hL : StL b w v vp vs ls) :
    Calls Tryz.prog 80 #[tptr b, vp] w fun e w' => e = .returned (errV (apN S ls.flatten.length)) ∧ ∃ v', Tp w' base b v' (apS S ls.flatten) ∧ Mv b w w' v v' := by
  obtain ⟨q0, cap0, e0, hc0, hm0⟩ := h.form
  have c0 := h.oct.c0
  rw [e0] at c0
  have hmx := h.max
  by_cases hfit : S.l.length + ls.flatten.length ≤ 1048576
  · have hd : Hid (decide (ls.flatten.length ≤ 1048576 - S.l.length) = true) := decide_eq_true (by omega)
    have hN : Hid (apN S ls.flatten.length = stN S) := if_pos hfit
    have hS : Hid (apS S ls.flatten = if stN S = 0 then { stS S with l := S.l ++ ls.flatten } else stS S) := if_pos hfit
    obtain ⟨q, cap, g, off, ep, hc, hm, hp, hg, hr⟩ := hL.ls.open
    have hlen := hL.ls.len
    subst ep
    generalize hn : ls.length = n at *
    go_enter Tryz.func80, Tryz.ntmps80
    go_upto_region 4 with (first
      | (go_at_call 100; refine (room_any b _ _ _ _ c0 hmx).mono ?_; rintro e W1 ⟨rfl, hW1⟩; subst W1)
      | (go_at_call 99; refine (fit_any _ _ _ _ _ hL.ls (by omega)).mono ?_; rintro e W2 ⟨rfl, hW2⟩; subst W2; rw [hd.out])
      | (go_at_call 64; refine (step_any base b v S _ h hst).mono ?_; rintro e W3 ⟨rfl, h3, k3⟩))
    by_cases h0 : stN S = 0
    · rw [errV_ok h0]
      have hS2 : Hid (apS S ls.flatten = { stS S with l := S.l ++ ls.flatten }) := hS.out.trans (if_pos h0)
      have hN2 : Hid (apN S ls.flatten.length = 0) := hN.out.trans h0
      have mv3 := mv_chg v k3
      have hl3 := (stS_l S).1
      have HM : Hid (∀ k, (ls.take k).flatten.length ≤ ls.flatten.length) := flat_mono ls
      generalize hT : stS S = T at *
      clear hN hS h0 hd c0 k3 hst
      go_wp2_with fail
      go_loopw [21] (fun i wr => ∃ (k : Nat) (v' : Value), k ≤ n ∧ i = .int .i64 (k : Int) ∧ Tp wr base b v' { T with l := T.l ++ (ls.take k).flatten } ∧ Mv b w wr v v') (fun i _ => n - (intOf i).toNat)
      case atStart => exact ⟨0, v, by omega, rfl, by simpa using h3, mv3⟩
      case round =>
        clear h3 mv3
        obtain ⟨k, v1, hk, rfl, h3, mv3⟩ := hrel
        by_cases c : k = n
        · subst c
          rw [List.take_of_length_le (by omega)] at h3
          clear hp hg hr
          go_wp2_with fail
          go_ret
          exact ⟨by rw [hN2.out]; rfl, _, by rw [hS2.out, ← hl3]; exact h3, mv3⟩
        · obtain ⟨y, hy⟩ : ∃ y, vs[k]? = some y := ⟨vs[k], List.getElem?_eq_getElem (by omega)⟩
          obtain ⟨l, hl⟩ : ∃ l, ls[k]? = some l := ⟨ls[k], List.getElem?_eq_getElem (by omega)⟩
          have hLr := hL _ _ mv3
          obtain ⟨q', cap', g', off', ep', hc', hm', hp', hg', hr'⟩ := hLr.open
          rw [hn] at ep' hp'
          obtain rfl := hp (by omega)
          have hp'' := hp' (by omega)
          cases ep'
          cases hp''
          have d := hr' k y hy
          have hsx := hLr.each k y l hy hl
          obtain ⟨q2, cap2, ey, -⟩ := id hsx
          have c0 := h3.oct.c0
          have hki : (k : Int) < (n : Int) := by omega
          have hkn : k < n := by omega
          have HT : Hid ((ls.take (k + 1)).flatten = (ls.take k).flatten ++ l) := flat_take ls k l hl
          have HF := flat_len ls k l hl
          have HM1 := HM.out (k + 1)
          have hown : wr.ownsRow base 5 1 v1 (T.l ++ (ls.take k).flatten).length (bys (T.l ++ (ls.take k).flatten)) := h3.own
          have hLen : Hid ((T.l ++ (ls.take k).flatten).length + l.length ≤ 1048576) := by
            show _ ≤ _
            rw [List.length_append, hl3]
            omega
          have hlt := h3.lt
          subst ey
          clear hr hp hg hy hl hr' hp' hg' hLr
          generalize hn2 : l.length = n2 at *
          go_wp2_with (at_builtin; refine app_t base rfl rfl rfl hown rfl hsx hn2 (by have := hLen.out; omega) (by omega) ?_; intro v5 W5 hown5 hgr5 hat5; have hB5 := blk_grownT h3.blk hgr5 h3.apart; have c05 := hB5.at (i := 0) rfl; have f05 := hB5.frozen 0; obtain ⟨q5, n5, cap5, e5⟩ := (own_sl hown5).2.slice; subst e5)
          have hap := blk_own hown5 hB5 (by decide)
          generalize hv5 : Value.slice q5 n5 cap5 = v5 at *
          have hB6 := hB5.set 0 v5
          have k6 := chg_set W5 b 0 v5
          have hown6 := own_chgT hown5 k6 hap
          refine ⟨⟨k + 1, v5, by omega, rfl, ?_, mv3.trans ((mv_grown hgr5 hat5).trans (mv_chg v5 k6))⟩, by simp only [intOf]; omega⟩
          rw [HT.out, ← List.append_assoc]
          exact h3.more hown6 hB6 (by have := hLen.out; rw [hn2]; exact this)
    · have hz := errV_no h0
      rw [hz]
      have hS2 : Hid (apS S ls.flatten = stS S) := hS.out.trans (if_neg h0)
      have hne := ne_err ((stN S : Nat) : Int)
      generalize hX : ((stN S : Nat) : Int) = X at *
      clear hp hg hr
      go_wp2_with fail
      go_ret
      exact ⟨by rw [hN.out, hz]; rfl, _, by rw [hS2.out]; exact h3, mv_chg v k3⟩
  · have hd : Hid (decide (ls.flatten.length ≤ 1048576 - S.l.length) = false) := decide_eq_false (by omega)
    have hN : Hid (apN S ls.flatten.length = 7) := if_neg hfit
    have hS : Hid (apS S ls.flatten = S) := if_neg hfit
    go_enter Tryz.func80, Tryz.ntmps80
    go_wp2_with (first
      | (go_at_call 100; refine (room_any b _ _ _ _ c0 hmx).mono ?_; rintro e W1 ⟨rfl, hW1⟩; subst W1)
      | (go_at_call 99; refine (fit_any _ _ _ _ _ hL.ls (by omega)).mono ?_; rintro e W2 ⟨rfl, hW2⟩; subst W2; rw [hd.out]))
    go_ret
    exact ⟨by rw [hN.out]; rfl, _, by rw [hS.out]; exact h, Mv.refl _ _ _⟩
end Go.Proofs.YthmolbcnbcajdaaGreat
namespace Go.Proofs.YthmolbcnbcajdaaGreat
set_option maxRecDepth 100000
open Go.RowKit
set_option linter.unusedVariables false

def syS (S : TS) : TS := if stN S = 0 then { stS S with sure := S.l.length } else stS S
set_option maxHeartbeats 1000000 in
theorem sync_any (base b : Nat) (v : Value) (S : TS) (w : World) (h : Tp w base b v S) (hst : S.steps < 4611686018427387904) :
    Calls Tryz.prog 81 #[tptr b] w fun e w' => e = .returned (errV (stN S)) ∧ Tp w' base b v (syS S) ∧ Mv b w w' v v := by
  have hl3 := stS_l S
  go_enter Tryz.func81, Tryz.ntmps81
  go_upto_region 2 with (go_at_call 64; refine (step_any base b v S _ h hst).mono ?_; rintro e W3 ⟨rfl, h3, k3⟩)
  by_cases h0 : stN S = 0
  · have hz := errV_ok h0
    rw [hz]
    have hS2 : Hid (syS S = { stS S with sure := S.l.length }) := if_pos h0
    obtain ⟨q0, cap0, e0, hc0, hm0⟩ := h3.form
    have c0 := h3.oct.c0
    have c1 := h3.oct.c1
    have f1 := h3.frozen 1
    have HB : Hid (Blk (W3.setCell ⟨b, 1, none⟩ (.int .i64 ((S.l.length : Nat) : Int))) b (tcs v { stS S with sure := S.l.length }) 72) := h3.blk.set 1 (.int .i64 ((S.l.length : Nat) : Int))
    have k4 := chg_set W3 b 1 (.int .i64 ((S.l.length : Nat) : Int))
    rw [e0, hl3.1] at c0
    have HZ : Hid (errV (stN S) = .nilIface) := hz
    clear hz h0 e0 hc0
    generalize hn : S.l.length = n at *
    go_wp2_with fail
    go_ret
    refine ⟨by rw [HZ.out]; rfl, ?_, mv_chg v (k3.trans k4)⟩
    rw [hS2.out]
    exact h3.chg HB.out k4 rfl (by show n ≤ _; rw [hl3.1]; omega) h3.bo h3.br
  · have hz := errV_no h0
    rw [hz]
    have hS2 : Hid (syS S = stS S) := if_neg h0
    have hne := ne_err ((stN S : Nat) : Int)
    generalize hX : ((stN S : Nat) : Int) = X at *
    go_wp2_with fail
    go_ret
    exact ⟨by rw [hz]; rfl, by rw [hS2.out]; exact h3, mv_chg v k3⟩
/-- Replace's error, and the tape behind it. -/
def rpN (S : TS) (k : Nat) : Nat := if k ≤ 1048576 then stN S else 7
def rpS (S : TS) (m : List Nat) : TS := if m.length ≤ 1048576 then (if stN S = 0 then { stS S with l := m, sure := m.length } else stS S) else S
set_option maxHeartbeats 1000000 in
theorem replace_any (base b : Nat) (v vx : Value) (m : List Nat) (S : TS) (w : World) (h : Tp w base b v S) (hst : S.steps < 4611686018427387904) (hx : Stb b w v vx m) :
    Calls Tryz.prog 42 #[tptr b, vx] w fun e w' => e = .returned (errV (rpN S m.length)) ∧ ∃ v', Tp w' base b v' (rpS S m) ∧ Mv b w w' v v' := by
  obtain ⟨qx, capx, gx, offx, ex, hcx, hmx, -⟩ := hx.sl.open
  subst ex
  by_cases hfit : m.length ≤ 1048576
  · have hN : Hid (rpN S m.length = stN S) := if_pos hfit
    have hS : Hid (rpS S m = if stN S = 0 then { stS S with l := m, sure := m.length } else stS S) := if_pos hfit
    generalize hn : m.length = n at *
    have hfi : ¬ (1048576 : Int) < (n : Int) := by omega
    go_enter Tryz.func42, Tryz.ntmps42
    go_upto_region 4 with (go_at_call 64; refine (step_any base b v S _ h hst).mono ?_; rintro e W3 ⟨rfl, h3, k3⟩)
    by_cases h0 : stN S = 0
    · have hz := errV_ok h0
      rw [hz]
      have hS2 : Hid (rpS S m = { stS S with l := m, sure := n }) := hS.out.trans (if_pos h0)
      have hx3 := hx.mv (mv_chg v k3)
      go_wp2_with (go_at_call 62; refine (clone_big _ _ _ hx3.sl (by omega)).mono ?_; rintro e W4 ⟨v4, rfl, hown4, b4⟩; obtain ⟨q4, n4, cap4, e4⟩ := (own_sl hown4).2.slice; subst e4; have h4 := h3.keep b4; have c0 := h4.oct.c0; have c1 := h4.oct.c1; have f0 := h4.frozen 0; have f1 := h4.frozen 1)
      go_ret
      generalize hv4 : Value.slice q4 n4 cap4 = v4 at *
      have hlt := h3.lt
      have hown5 := own_less hown4 (Nat.le_of_lt hlt)
      have hap : v4.ownBlock ≠ some b := blk_own hown5 h4.blk (by decide)
      have hB5 := (h4.blk.set 0 v4).set 1 (.int .i64 ((n : Nat) : Int))
      have k5 : Chg b W4 _ := (chg_set W4 b 0 v4).trans (chg_set _ b 1 (.int .i64 ((n : Nat) : Int)))
      refine ⟨by rw [hN.out, hz]; rfl, v4, ?_, (mv_chg v k3).trans ((mv_new b4 (fun r hr => (hown4.lt r hr).1)).trans (mv_chg v4 k5))⟩
      rw [hS2.out]
      exact ⟨h.ge, hB5, own_chgT hown5 k5 hap, by show n ≤ m.length; omega, by show m.length ≤ _; omega, h3.bo, h3.br⟩
    · have hz := errV_no h0
      rw [hz]
      have hS2 : Hid (rpS S m = stS S) := hS.out.trans (if_neg h0)
      have hne := ne_err ((stN S : Nat) : Int)
      generalize hX : ((stN S : Nat) : Int) = X at *
      go_wp2_with fail
      go_ret
      exact ⟨by rw [hN.out, hz]; rfl, _, by rw [hS2.out]; exact h3, mv_chg v k3⟩
  · have hN : Hid (rpN S m.length = 7) := if_neg hfit
    have hS : Hid (rpS S m = S) := if_neg hfit
    have hfi : (1048576 : Int) < (m.length : Int) := by omega
    generalize hn : m.length = n at *
    go_enter Tryz.func42, Tryz.ntmps42
    go_wp2_with fail
    go_ret
    exact ⟨by rw [hN.out]; rfl, _, by rw [hS.out]; exact h, Mv.refl _ _ _⟩
end Go.Proofs.YthmolbcnbcajdaaGreat
namespace Go.Proofs.YthmolbcnbcajdaaGreat
set_option maxRecDepth 100000
open Go.RowKit
set_option linter.unusedVariables false

/-- 'b[:j]' of an own slice. -/
theorem cut_own {w : World} {base n cap j : Nat} {q : Option Addr} {l : List Nat} (h : w.ownsRow base 5 1 (.slice q n cap) n (bys l)) (hj : j ≤ n) :
    sliced q 0 j cap 1 = .slice q j cap ∧ w.ownsRow base 5 1 (.slice q j cap) j (bys (l.take j)) ∧ j ≤ cap ∧ (l.take j).length = j := by
  have hl := (own_sl h).1
  obtain ⟨h1, h2⟩ := h
  rcases h2 with ⟨h2, h3⟩ | ⟨g', cap', cur, e, hb, hg, hnc, hcm, hcs, ht⟩
  · cases h2
    obtain rfl : j = 0 := by omega
    exact ⟨rfl, World.ownsRow_nil _ _ _ _, Nat.le_refl _, by simp⟩
  · cases e
    refine ⟨by unfold sliced; simp [Addr.add], ⟨by rw [bys_len, List.length_take]; omega, .inr ⟨g', cap, cur, rfl, hb, hg, by omega, hcm, hcs, ?_⟩⟩, by omega, by rw [List.length_take]; omega⟩
    have e2 : bys (l.take j) = (bys l).take j := by simp [bys, List.map_take]
    rw [e2, ← ht, List.take_take]
    congr 1
    omega
theorem Tp.cut {W : World} {base b n cap j : Nat} {q : Option Addr} {S : TS} (h : Tp W base b (.slice q n cap) S) (hn : S.l.length = n) (hj : S.sure ≤ j) (hjn : j ≤ n) : Tp (W.setCell ⟨b, 0, none⟩ (.slice q j cap)) base b (.slice q j cap) { S with l := S.l.take j } := by
  have hown := h.own
  rw [hn] at hown
  obtain ⟨-, o1, o2, o3⟩ := cut_own hown hjn
  have hap := h.apart
  have hmx := h.max
  have k := chg_set W b 0 (.slice q j cap)
  refine ⟨h.ge, h.blk.set 0 _, ?_, by show S.sure ≤ (S.l.take j).length; omega, by show (S.l.take j).length ≤ _; omega, h.bo, h.br⟩
  show (W.setCell ⟨b, 0, none⟩ (.slice q j cap)).ownsRow base 5 1 (.slice q j cap) (S.l.take j).length (bys (S.l.take j))
  rw [o3]
  refine own_chgT o1 k ?_
  intro e
  apply hap
  cases q with
  | none => cases e
  | some a => exact e
theorem mv_same {b : Nat} {w w' : World} {q : Option Addr} {n cap n' cap' : Nat} (h : Chg b w w') : Mv b w w' (.slice q n cap) (.slice q n' cap') :=
  ⟨h.os, h.tape, h.output, Nat.le_of_eq h.size.symm, fun k _ hk _ => h.other k hk, fun r hr => .inl (by cases q with
    | none => cases hr
    | some a => exact hr)⟩
def ctS (S : TS) : TS := if S.down then S else { S with l := S.l.take S.sure }
set_option maxHeartbeats 1000000 in
theorem cut_any (base b : Nat) (v : Value) (S : TS) (w : World) (h : Tp w base b v S) :
    Calls Tryz.prog 82 #[tptr b] w fun e w' => e = .returned (.tuple #[]) ∧ ∃ v', Tp w' base b v' (ctS S) ∧ Mv b w w' v v' := by
  have hc7 := h.oct.c7
  by_cases hd : S.down = true
  · have hS : Hid (ctS S = S) := if_pos hd
    rw [hd] at hc7
    go_enter Tryz.func82, Tryz.ntmps82
    go_wp2_with (go_at_call 39; refine (down_any b _ _ hc7).mono ?_; rintro e W1 ⟨rfl, hW1⟩; subst W1)
    refine bodyPost_ret (results_none rfl _ _ _) rfl ?_
    exact ⟨rfl, _, by rw [hS.out]; exact h, Mv.refl _ _ _⟩
  · have hS : Hid (ctS S = { S with l := S.l.take S.sure }) := if_neg hd
    have hd' : S.down = false := by simpa using hd
    rw [hd'] at hc7
    clear hd hd'
    obtain ⟨q, cap, e, hc, hm⟩ := h.form
    subst e
    go_enter Tryz.func82, Tryz.ntmps82
    go_upto_region 1 with (go_at_call 39; refine (down_any b _ _ hc7).mono ?_; rintro e W1 ⟨rfl, hW1⟩; subst W1)
    have h2 := h.keep (W' := w.drew) (Below.refl _ _).drew
    have mv2 : Mv b w w.drew (.slice q S.l.length cap) (.slice q S.l.length cap) := mv_below _ (Below.refl _ _).drew
    have hsl := h.sure
    generalize hn : S.l.length = n at *
    have hown : w.drew.ownsRow base 5 1 (.slice q n cap) n (bys S.l) := by have := h2.own; rwa [hn] at this
    have c0 := h2.oct.c0
    have c1 := h2.oct.c1
    have f0 := h2.frozen 0
    have hco := (cut_own hown hsl).1
    have hjc := (cut_own hown hsl).2.2.1
    refine region_L 12 (S := fun w' => w' = w.drew) (by kernel_rfl) rfl (fun hHeld => ?_)
    generalize w.drew = V at *
    refine takeL (i := 0) [10, 11, 12] (some 4) (by rfl) rfl rfl (by kernel_rfl) (by kernel_rfl) (by kernel_rfl) (by kernel_rfl) (fun _ _ _ h => h) (by rfl) (fun w hSw => by (try dsimp only at hSw); go_simp; try rfl) hHeld ?_
    go_frame
    refine takeL (i := 1) [2, 3, 4, 9, 12] (some 5) (by rfl) rfl rfl (by kernel_rfl) (by kernel_rfl) (by kernel_rfl) (by kernel_rfl) (fun _ _ _ h => h) (by rfl) (fun w hSw => by (try dsimp only at hSw); go_simp; try rfl) hHeld ?_
    go_frame
    refine takeL (i := 2) [3, 4, 9, 12] (some 6) (by rfl) rfl rfl (by kernel_rfl) (by kernel_rfl) (by kernel_rfl) (by kernel_rfl) (fun _ _ _ h => h) (by rfl) (fun w hSw => by (try dsimp only at hSw); go_simp; try rfl) hHeld ?_
    go_frame
    refine takeL (i := 3) [4, 9, 12] (some 7) (by rfl) rfl rfl (by kernel_rfl) (by kernel_rfl) (by kernel_rfl) (by kernel_rfl) (fun _ _ _ h => h) (by rfl) (fun w hSw => by (try dsimp only at hSw); go_simp; try rfl) hHeld ?_
    go_frame
    refine takeL (i := 4) [9, 12] (some 8) (by rfl) rfl rfl (by kernel_rfl) (by kernel_rfl) (by kernel_rfl) (by kernel_rfl) (fun _ _ _ h => h) (by rfl) (fun w hSw => by (try dsimp only at hSw); (subst hSw; go_simp; try rfl)) hHeld ?_
    go_frame
    refine takeL (i := 5) [6, 7, 8, 9, 12] (some 9) (by rfl) rfl rfl (by kernel_rfl) (by kernel_rfl) (by kernel_rfl) (by kernel_rfl) (fun _ _ _ h => h) (by rfl) (fun w hSw => by (try dsimp only at hSw); go_simp; try rfl) hHeld ?_
    go_frame
    refine takeL (i := 6) [7, 8, 9, 12] (some 10) (by rfl) rfl rfl (by kernel_rfl) (by kernel_rfl) (by kernel_rfl) (by kernel_rfl) (fun _ _ _ h => h) (by rfl) (fun w hSw => by (try dsimp only at hSw); go_simp; try rfl) hHeld ?_
    go_frame
    refine takeL (i := 7) [8, 9, 12] (some 11) (by rfl) rfl rfl (by kernel_rfl) (by kernel_rfl) (by kernel_rfl) (by kernel_rfl) (fun _ _ _ h => h) (by rfl) (fun w hSw => by (try dsimp only at hSw); go_simp; try rfl) hHeld ?_
    go_frame
    refine takeL (i := 8) [9, 12] (some 12) (by rfl) rfl rfl (by kernel_rfl) (by kernel_rfl) (by kernel_rfl) (by kernel_rfl) (fun _ _ _ h => h) (by rfl) (fun w hSw => by (try dsimp only at hSw); (subst hSw; go_simp; try rfl)) hHeld ?_
    go_frame
    refine takeL (i := 9) [12] (some 13) (by rfl) rfl rfl (by kernel_rfl) (by kernel_rfl) (by kernel_rfl) (by kernel_rfl) (fun _ _ _ h => h) (by rfl) (fun w hSw => by (try dsimp only at hSw); exact slb_h_run rfl rfl rfl rfl hjc) hHeld ?_
    go_frame
    rw [hco]
    refine takeL (i := 10) [11, 12] (some 14) (by rfl) rfl rfl (by kernel_rfl) (by kernel_rfl) (by kernel_rfl) (by kernel_rfl) (fun _ _ _ h => h) (by rfl) (fun w hSw => by (try dsimp only at hSw); go_simp; try rfl) hHeld ?_
    go_frame
    refine takeL (i := 11) [12] (some 15) (by rfl) rfl rfl (by kernel_rfl) (by kernel_rfl) (by kernel_rfl) (by kernel_rfl) (fun _ _ _ h => h) (by rfl) (fun w hSw => by (try dsimp only at hSw); go_simp; try rfl) hHeld ?_
    go_frame
    refine anyL_ready (rs := [12]) (by kernel_rfl) (by simp) (AllL.last rfl (by kernel_rfl) (fun K hK => ?_))
    go_simp
    refine hK.out _ _ ?_
    clear hK K
    refine anyL_done (by kernel_rfl) ?_
    go_end0
    rw [hn]
    refine ⟨rfl, .slice q S.sure cap, ?_, mv2.trans (mv_same (chg_set _ _ 0 _))⟩
    rw [hS.out]
    exact h2.cut hn (Nat.le_refl _) hsl
/-- How many bytes more stay; the tape behind a crash. -/
def kp (S : TS) (k : Int) : Nat := min k.toNat (S.l.length - S.sure)
def crS (S : TS) (k : Int) : TS := ⟨S.l.take (S.sure + kp S k), S.sure + kp S k, S.steps, false, 0, false, 0, false⟩
set_option maxHeartbeats 1000000 in
theorem crash_any (base b : Nat) (v : Value) (S : TS) (k : Int) (w : World) (h : Tp w base b v S) (hk : -9223372036854775808 ≤ k ∧ k ≤ 9223372036854775807) :
    Calls Tryz.prog 12 #[tptr b, .int .i64 k] w fun e w' => e = .returned (.tuple #[]) ∧ ∃ v', Tp w' base b v' (crS S k) ∧ Mv b w w' v v' := by
  obtain ⟨q, cap, e, hc, hm⟩ := h.form
  subst e
  have c0 := h.oct.c0
  have c1 := h.oct.c1
  have hsl := h.sure
  have hmx := h.max
  obtain ⟨M, hM⟩ : ∃ M, kp S k = M := ⟨_, rfl⟩
  have hM1 : M ≤ S.l.length - S.sure := by rw [← hM]; unfold kp; omega
  have hS : Hid (crS S k = ⟨S.l.take (S.sure + M), S.sure + M, S.steps, false, 0, false, 0, false⟩) := by show _ = _; unfold crS; rw [hM]
  have hKi : (if (S.l.length : Int) - (S.sure : Int) < (if k < 0 then 0 else k) then (S.l.length : Int) - (S.sure : Int) else (if k < 0 then 0 else k)) = ((M : Nat) : Int) := by
    rw [← hM]; unfold kp
    split <;> split at * <;> omega
  clear hM
  generalize hn : S.l.length = n at *
  generalize hs : S.sure = s at *
  go_enter Tryz.func12, Tryz.ntmps12
  go_upto_region 1 with fail
  go_quiet (fail)
  clear hKi
  generalize (if k < 0 then (0 : Int) else k) = y
  have b2 : Below w.heap.size w (w.drewN nq).drew := (below_drewN (Below.refl _ _) nq).drew
  go_upto_region 2 with fail
  have h2 := h.keep b2
  have mv2 : Mv b w (w.drewN nq).drew (.slice q n cap) (.slice q n cap) := mv_below _ b2
  refine region_L 14 (S := fun w' => w' = (w.drewN nq).drew) (by kernel_rfl) rfl (fun hHeld => ?_)
  clear b2 c0 c1
  generalize (w.drewN nq).drew = V at *
  have hown : V.ownsRow base 5 1 (.slice q n cap) n (bys S.l) := by have := h2.own; rwa [hn] at this
  have hjn : s + M ≤ n := by omega
  have hco := (cut_own hown hjn).1
  have hjc := (cut_own hown hjn).2.2.1
  have hlen := (cut_own hown hjn).2.2.2
  have c0 := h2.oct.c0
  have c1 := h2.oct.c1
  rw [hs] at c1
  have f0 := h2.frozen 0
  have x1 : IntKind.i64.wrap ((s : Int) + (M : Int)) = (s : Int) + (M : Int) := by simp [IntKind.wrap, IntKind.signed, IntKind.bits] <;> omega
  refine takeL (i := 0) [12, 13, 14] (some 19) (by rfl) rfl rfl (by kernel_rfl) (by kernel_rfl) (by kernel_rfl) (by kernel_rfl) (fun _ _ _ h => h) (by rfl) (fun w hSw => by (try dsimp only at hSw); go_simp; try rfl) hHeld ?_
  go_frame
  refine takeL (i := 1) [2, 3, 4, 11, 14] (some 20) (by rfl) rfl rfl (by kernel_rfl) (by kernel_rfl) (by kernel_rfl) (by kernel_rfl) (fun _ _ _ h => h) (by rfl) (fun w hSw => by (try dsimp only at hSw); go_simp; try rfl) hHeld ?_
  go_frame
  refine takeL (i := 2) [3, 4, 11, 14] (some 21) (by rfl) rfl rfl (by kernel_rfl) (by kernel_rfl) (by kernel_rfl) (by kernel_rfl) (fun _ _ _ h => h) (by rfl) (fun w hSw => by (try dsimp only at hSw); go_simp; try rfl) hHeld ?_
  go_frame
  refine takeL (i := 3) [4, 11, 14] (some 22) (by rfl) rfl rfl (by kernel_rfl) (by kernel_rfl) (by kernel_rfl) (by kernel_rfl) (fun _ _ _ h => h) (by rfl) (fun w hSw => by (try dsimp only at hSw); go_simp; try rfl) hHeld ?_
  go_frame
  refine takeL (i := 4) [11, 14] (some 23) (by rfl) rfl rfl (by kernel_rfl) (by kernel_rfl) (by kernel_rfl) (by kernel_rfl) (fun _ _ _ h => h) (by rfl) (fun w hSw => by (try dsimp only at hSw); (subst hSw; go_simp; try rfl)) hHeld ?_
  go_frame
  refine takeL (i := 5) [6, 7, 8, 10, 11, 14] (some 24) (by rfl) rfl rfl (by kernel_rfl) (by kernel_rfl) (by kernel_rfl) (by kernel_rfl) (fun _ _ _ h => h) (by rfl) (fun w hSw => by (try dsimp only at hSw); go_simp; try rfl) hHeld ?_
  go_frame
  refine takeL (i := 6) [7, 8, 10, 11, 14] (some 25) (by rfl) rfl rfl (by kernel_rfl) (by kernel_rfl) (by kernel_rfl) (by kernel_rfl) (fun _ _ _ h => h) (by rfl) (fun w hSw => by (try dsimp only at hSw); go_simp; try rfl) hHeld ?_
  go_frame
  refine takeL (i := 7) [8, 10, 11, 14] (some 26) (by rfl) rfl rfl (by kernel_rfl) (by kernel_rfl) (by kernel_rfl) (by kernel_rfl) (fun _ _ _ h => h) (by rfl) (fun w hSw => by (try dsimp only at hSw); go_simp; try rfl) hHeld ?_
  go_frame
  refine takeL (i := 8) [10, 11, 14] (some 27) (by rfl) rfl rfl (by kernel_rfl) (by kernel_rfl) (by kernel_rfl) (by kernel_rfl) (fun _ _ _ h => h) (by rfl) (fun w hSw => by (try dsimp only at hSw); (subst hSw; go_simp; try rfl)) hHeld ?_
  go_frame
  refine takeL (i := 9) [10, 11, 14] (some 28) (by rfl) rfl rfl (by kernel_rfl) (by kernel_rfl) (by kernel_rfl) (by kernel_rfl) (fun _ _ _ h => h) (by rfl) (fun w hSw => by (try dsimp only at hSw); go_simp; try rfl) hHeld ?_
  go_frame
  refine takeL (i := 10) [11, 14] (some 29) (by rfl) rfl rfl (by kernel_rfl) (by kernel_rfl) (by kernel_rfl) (by kernel_rfl) (fun _ _ _ h => h) (by rfl) (fun w hSw => by (try dsimp only at hSw); (refine (?_ : _ = Result.ok (Next.value (.int .i64 ((s + M : Nat) : Int))) _); go_simp; try rfl)) hHeld ?_
  go_frame
  refine takeL (i := 11) [14] (some 30) (by rfl) rfl rfl (by kernel_rfl) (by kernel_rfl) (by kernel_rfl) (by kernel_rfl) (fun _ _ _ h => h) (by rfl) (fun w hSw => by (try dsimp only at hSw); exact slb_h_run rfl rfl rfl rfl hjc) hHeld ?_
  go_frame
  rw [hco]
  refine takeL (i := 12) [13, 14] (some 31) (by rfl) rfl rfl (by kernel_rfl) (by kernel_rfl) (by kernel_rfl) (by kernel_rfl) (fun _ _ _ h => h) (by rfl) (fun w hSw => by (try dsimp only at hSw); go_simp; try rfl) hHeld ?_
  go_frame
  refine takeL (i := 13) [14] (some 32) (by rfl) rfl rfl (by kernel_rfl) (by kernel_rfl) (by kernel_rfl) (by kernel_rfl) (fun _ _ _ h => h) (by rfl) (fun w hSw => by (try dsimp only at hSw); go_simp; try rfl) hHeld ?_
  go_frame
  refine anyL_ready (rs := [14]) (by kernel_rfl) (by simp) (AllL.last rfl (by kernel_rfl) (fun K hK => ?_))
  go_simp
  refine hK.out _ _ ?_
  clear hK K
  refine anyL_done (by kernel_rfl) ?_
  have h3 : Tp (V.setCell ⟨b, 0, none⟩ (.slice q (s + M) cap)) base b (.slice q (s + M) cap) { S with l := S.l.take (s + M) } := h2.cut hn (by omega) hjn
  have mv3 := mv2.trans (mv_same (n' := s + M) (cap' := cap) (chg_set V b 0 (.slice q (s + M) cap)))
  clear x1 h2 mv2 hown hco c0 c1 f0 hHeld
  generalize V.setCell ⟨b, 0, none⟩ (.slice q (s + M) cap) = V3 at *
  have d0 := h3.oct.c0
  have d1 := h3.oct.c1
  have d3 := h3.oct.c3
  have d4 := h3.oct.c4
  have d5 := h3.oct.c5
  have d6 := h3.oct.c6
  have d7 := h3.oct.c7
  have f1 := h3.frozen 1
  have f3 := h3.frozen 3
  have f4 := h3.frozen 4
  have f5 := h3.frozen 5
  have f6 := h3.frozen 6
  have f7 := h3.frozen 7
  go_wp2_with fail
  go_end0
  have k8 := (((((chg_set V3 b 1 (.int .i64 ((s + M : Nat) : Int))).trans (chg_set _ b 3 (.bool false))).trans (chg_set _ b 4 (.int .i64 0))).trans (chg_set _ b 5 (.bool false))).trans (chg_set _ b 6 (.int .i64 0))).trans (chg_set _ b 7 (.bool false))
  have hB8 := ((((((h3.blk.set 1 (.int .i64 ((s + M : Nat) : Int))).set 3 (.bool false)).set 4 (.int .i64 0)).set 5 (.bool false)).set 6 (.int .i64 0)).set 7 (.bool false))
  refine ⟨rfl, .slice q (s + M) cap, ?_, mv3.trans (mv_chg _ k8)⟩
  rw [hS.out]
  exact h3.chg hB8 k8 rfl (by show s + M ≤ (S.l.take (s + M)).length; omega) (by simp) (by simp)
end Go.Proofs.YthmolbcnbcajdaaGreat
namespace Go.Proofs.YthmolbcnbcajdaaGreat
set_option maxRecDepth 100000
open Go.RowKit
set_option linter.unusedVariables false

abbrev up (l : List Nat) (s n : Nat) : TS := ⟨l, s, n, false, 0, false, 0, false⟩
theorem up_N (l : List Nat) (s n : Nat) : stN (up l s n) = 0 := by simp [stN, duF]
theorem up_S (l : List Nat) (s n : Nat) : stS (up l s n) = up l s (n + 1) := by simp [stS, duF, duS, duA]
theorem append_up (base b : Nat) (v vp : Value) (vs : List Value) (ls : List (List Nat)) (l : List Nat) (s n : Nat) (w : World) (h : Tp w base b v (up l s n)) (hst : n < 4611686018427387904) (hL : StL b w v vp vs ls) (hfit : l.length + ls.flatten.length ≤ 1048576) :
    Calls Tryz.prog 80 #[tptr b, vp] w fun e w' => e = .returned .nilIface ∧ ∃ v', Tp w' base b v' (up (l ++ ls.flatten) s (n + 1)) ∧ Mv b w w' v v' := by
  have h1 : apN (up l s n) ls.flatten.length = 0 := by unfold apN; rw [if_pos hfit]; exact up_N l s n
  have h2 : apS (up l s n) ls.flatten = up (l ++ ls.flatten) s (n + 1) := by unfold apS; rw [if_pos hfit, if_pos (up_N l s n), up_S]
  refine (append_any base b v vp vs ls (up l s n) w h hst hL).mono fun e w' h' => ?_
  rw [h1, h2] at h'
  exact h'
theorem sync_up (base b : Nat) (v : Value) (l : List Nat) (s n : Nat) (w : World) (h : Tp w base b v (up l s n)) (hst : n < 4611686018427387904) :
    Calls Tryz.prog 81 #[tptr b] w fun e w' => e = .returned .nilIface ∧ Tp w' base b v (up l l.length (n + 1)) ∧ Mv b w w' v v := by
  have h2 : syS (up l s n) = up l l.length (n + 1) := by unfold syS; rw [if_pos (up_N l s n), up_S]
  refine (sync_any base b v (up l s n) w h hst).mono fun e w' h' => ?_
  rw [up_N, h2] at h'
  exact h'
theorem cut_up (base b : Nat) (v : Value) (l : List Nat) (s n : Nat) (w : World) (h : Tp w base b v (up l s n)) :
    Calls Tryz.prog 82 #[tptr b] w fun e w' => e = .returned (.tuple #[]) ∧ ∃ v', Tp w' base b v' (up (l.take s) s n) ∧ Mv b w w' v v' := by
  have h2 : ctS (up l s n) = up (l.take s) s n := rfl
  refine (cut_any base b v (up l s n) w h).mono fun e w' h' => ?_
  rw [h2] at h'
  exact h'
theorem crash_up (base b : Nat) (v : Value) (S : TS) (k : Int) (j : Nat) (w : World) (h : Tp w base b v S) (hk : -9223372036854775808 ≤ k ∧ k ≤ 9223372036854775807) (hj : S.sure + min k.toNat (S.l.length - S.sure) = j) :
    Calls Tryz.prog 12 #[tptr b, .int .i64 k] w fun e w' => e = .returned (.tuple #[]) ∧ ∃ v', Tp w' base b v' (up (S.l.take j) j S.steps) ∧ Mv b w w' v v' := by
  subst hj
  exact crash_any base b v S k w h hk
/-- What was just made. -/
theorem stb_own {w w' : World} {base b n : Nat} {v x : Value} {S : TS} {m : List Nat} (hT : Tp w base b v S) (h : w'.ownsRow w.heap.size 5 1 x n (bys m)) : Stb b w' v x m :=
  stb_far (own_sl h).2 fun g hg => by
    have h1 := (h.lt g hg).1
    have h2 := hT.blk.lt
    refine ⟨by omega, fun e => ?_⟩
    have := (hT.own.lt g e).2
    omega

/-! A nil tape. -/
theorem down_nil (w : World) : Calls Tryz.prog 39 #[.pointer none] w fun e w' => e = .returned (.bool true) ∧ w' = w := by
  go_enter Tryz.func39, Tryz.ntmps39
  go_wp2_with fail
  go_ret
  exact ⟨rfl, rfl⟩
theorem room_nil (w : World) : Calls Tryz.prog 100 #[.pointer none] w fun e w' => e = .returned (.int .i64 1048576) ∧ w' = w := by
  go_enter Tryz.func100, Tryz.ntmps100
  go_wp2_with fail
  go_ret
  exact ⟨rfl, rfl⟩
theorem read_nil (w : World) : Calls Tryz.prog 40 #[.pointer none] w fun e w' => e = .returned (.slice none 0 0) ∧ w' = w := by
  go_enter Tryz.func40, Tryz.ntmps40
  go_wp2_with fail
  go_ret
  exact ⟨rfl, rfl⟩
theorem step_nil (w : World) : Calls Tryz.prog 64 #[.pointer none] w fun e w' => e = .returned (Err 5) ∧ w' = w := by
  go_enter Tryz.func64, Tryz.ntmps64
  go_wp2_with (go_at_call 39; refine (down_nil _).mono ?_; rintro e W1 ⟨rfl, hW1⟩; subst W1)
  go_ret
  exact ⟨rfl, rfl⟩
theorem sync_nil (w : World) : Calls Tryz.prog 81 #[.pointer none] w fun e w' => e = .returned (Err 5) ∧ w' = w := by
  have hne := ne_err 5
  go_enter Tryz.func81, Tryz.ntmps81
  go_wp2_with (go_at_call 64; refine (step_nil _).mono ?_; rintro e W1 ⟨rfl, hW1⟩; subst W1)
  go_ret
  exact ⟨rfl, rfl⟩
theorem fit_full (v : Value) (vs : List Value) (ls : List (List Nat)) (w : World) (hv : Ls w v vs ls) (hd : decide (ls.flatten.length ≤ 1048576) = true) :
    Calls Tryz.prog 99 #[v, .int .i64 1048576] w fun e w' => e = .returned (.bool true) ∧ w' = w := by
  have := fit_any v vs ls 1048576 w hv (by omega)
  rwa [hd] at this
theorem append_nil (vp : Value) (vs : List Value) (ls : List (List Nat)) (w : World) (hL : Ls w vp vs ls) (hfit : ls.flatten.length ≤ 1048576) : Calls Tryz.prog 80 #[.pointer none, vp] w fun e w' => e = .returned (Err 5) ∧ w' = w := by
  have hne := ne_err 5
  have hd : Hid (decide (ls.flatten.length ≤ 1048576) = true) := decide_eq_true hfit
  go_enter Tryz.func80, Tryz.ntmps80
  go_wp2_with (first
      | (go_at_call 100; refine (room_nil _).mono ?_; rintro e W1 ⟨rfl, hW1⟩; subst W1)
      | (go_at_call 99; refine (fit_full _ _ _ _ hL hd.out).mono ?_; rintro e W2 ⟨rfl, hW2⟩; subst W2)
      | (go_at_call 64; refine (step_nil _).mono ?_; rintro e W1 ⟨rfl, hW1⟩; subst W1))
  go_ret
  exact ⟨rfl, rfl⟩
theorem replace_nil (q : Option Addr) (n cap : Nat) (w : World) (hfit : n ≤ 1048576) : Calls Tryz.prog 42 #[.pointer none, .slice q n cap] w fun e w' => e = .returned (Err 5) ∧ w' = w := by
  have hne := ne_err 5
  go_enter Tryz.func42, Tryz.ntmps42
  go_wp2_with (go_at_call 64; refine (step_nil _).mono ?_; rintro e W1 ⟨rfl, hW1⟩; subst W1)
  go_ret
  exact ⟨rfl, rfl⟩
theorem cut_nil (w : World) : Calls Tryz.prog 82 #[.pointer none] w fun e w' => e = .returned (.tuple #[]) ∧ w' = w := by
  go_enter Tryz.func82, Tryz.ntmps82
  go_wp2_with (go_at_call 39; refine (down_nil _).mono ?_; rintro e W1 ⟨rfl, hW1⟩; subst W1)
  refine bodyPost_ret (results_none rfl _ _ _) rfl ?_
  exact ⟨rfl, rfl⟩
theorem crash_nil (n : Int) (w : World) : Calls Tryz.prog 12 #[.pointer none, .int .i64 n] w fun e w' => e = .returned (.tuple #[]) ∧ w' = w := by
  go_enter Tryz.func12, Tryz.ntmps12
  go_wp2_with fail
  refine bodyPost_ret (results_none rfl _ _ _) rfl ?_
  exact ⟨rfl, rfl⟩
end Go.Proofs.YthmolbcnbcajdaaGreat
namespace Go.Proofs.YthmolbcnbcajdaaGreat
set_option maxRecDepth 100000
open Go.RowKit
set_option linter.unusedVariables false
theorem stb_at {w w' : World} {base b n c : Nat} {v : Value} {S : TS} {m : List Nat} (hT : Tp w base b v S) (h : Sl w' (.slice (some ⟨w.heap.size, 0, none⟩) n c) m) : Stb b w' v (.slice (some ⟨w.heap.size, 0, none⟩) n c) m :=
  stb_far h fun g hg => by
    have hg' : w.heap.size = g := by simpa [Value.ownBlock] using hg
    have h2 := hT.blk.lt
    refine ⟨by omega, fun e => ?_⟩
    have := (hT.own.lt g e).2
    omega
theorem below_mark {w w1 w2 : World} (h : Below w.heap.size w w1) (k : Chg w.heap.size w1 w2) : Below w.heap.size w w2 := h.trans (k.below (Nat.le_refl _))
theorem str_abc : strB [97, 98, 99] = ⟨#[97, 98, 99]⟩ := by decide +kernel
end Go.Proofs.YthmolbcnbcajdaaGreat
