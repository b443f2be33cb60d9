/-
  A tape in memory: its struct's cells, and its bytes as a slice of the call's own.
-/
import Derived.Test.YtalbiggmmmkclaaFrL
import Derived.Test.YtalbiggmmmkclaaFrE
import Derived.Test.YtalbiggmmmkclaaFrI
namespace Go.Proofs.Ytalbiggmmmkclaa
open Go.RowKit
set_option linter.unusedVariables false

/-- What a tape holds: bytes, how many are sure, steps, the outage, the refusal, down. -/
structure TS where
  l : List Nat
  sure : Nat
  steps : Nat
  os : Bool
  oa : Nat
  rs : Bool
  ra : Nat
  down : Bool
def tcs (v : Value) (S : TS) : Array Value := #[v, .int .i64 ((S.sure : Nat) : Int), .int .i64 ((S.steps : Nat) : Int), .bool S.os, .int .i64 ((S.oa : Nat) : Int), .bool S.rs, .int .i64 ((S.ra : Nat) : Int), .bool S.down]
/-- A tape at block b. -/
structure Tp (W : World) (base b : Nat) (v : Value) (S : TS) : Prop where
  ge : base ≤ b
  blk : Blk W b (tcs v S) 76
  own : W.ownsRow base 5 1 v S.l.length (bys S.l)
  sure : S.sure ≤ S.l.length
  max : S.l.length ≤ 1048576
  bo : S.oa ≤ 9223372036854775807
  br : S.ra ≤ 9223372036854775807
/-- Nothing but the tape's own memory has turned. -/
structure Mv (b : Nat) (w w' : World) (v v' : Value) : Prop where
  os : w'.os = w.os
  tape : w'.tape = w.tape
  output : w'.output = w.output
  size : w.heap.size ≤ w'.heap.size
  other : ∀ k, k < w.heap.size → k ≠ b → v.ownBlock ≠ some k → w'.heap[k]? = w.heap[k]?
  next : ∀ r, v'.ownBlock = some r → v.ownBlock = some r ∨ w.heap.size ≤ r
theorem Mv.refl (b : Nat) (w : World) (v : Value) : Mv b w w v v := ⟨rfl, rfl, rfl, Nat.le_refl _, fun _ _ _ _ => rfl, fun _ h => .inl h⟩
theorem Mv.trans {b : Nat} {w w' w'' : World} {v v' v'' : Value} (h : Mv b w w' v v') (k : Mv b w' w'' v' v'') : Mv b w w'' v v'' :=
  ⟨k.os.trans h.os, k.tape.trans h.tape, k.output.trans h.output, Nat.le_trans h.size k.size,
   fun i hi hb hv => (k.other i (Nat.lt_of_lt_of_le hi h.size) hb (fun e => by
     rcases h.next i e with e | e
     · exact hv e
     · omega)).trans (h.other i hi hb hv),
   fun r hr => by
     rcases k.next r hr with e | e
     · exact h.next r e
     · exact .inr (Nat.le_trans h.size e)⟩
theorem mv_chg {b : Nat} {w w' : World} (v : Value) (h : Chg b w w') : Mv b w w' v v := ⟨h.os, h.tape, h.output, Nat.le_of_eq h.size.symm, fun k _ hk _ => h.other k hk, fun _ h => .inl h⟩
theorem mv_below {b : Nat} {w w' : World} (v : Value) (h : Below w.heap.size w w') : Mv b w w' v v := ⟨h.os, h.tape, h.output, h.size, fun k hk _ _ => h.block k hk, fun _ h => .inl h⟩
theorem mv_grown {b : Nat} {w w' : World} {v v' : Value} (h : w.grownBy w' v.ownBlock) (ha : v'.ownBlock = v.ownBlock ∨ v'.ownBlock = some w.heap.size) : Mv b w w' v v' :=
  ⟨h.os, h.tape, h.output, h.size, fun k hk _ hv => h.block k hk (fun e => hv e.symm), fun r hr => by
    rcases ha with e | e
    · exact .inl (by rw [← e]; exact hr)
    · rw [e] at hr; cases hr; exact .inr (Nat.le_refl _)⟩
theorem Tp.lt {W : World} {base b : Nat} {v : Value} {S : TS} (h : Tp W base b v S) : base < W.heap.size := Nat.lt_of_le_of_lt h.ge h.blk.lt
theorem Tp.below {W W' : World} {base b : Nat} {v v' : Value} {S : TS} (h : Tp W base b v S) (m : Mv b W W' v v') : Below base W W' :=
  ⟨m.os, m.tape, m.output, m.size, fun k hk => m.other k (Nat.lt_trans hk h.lt) (by have := h.ge; omega) (fun e => by have := (h.own.lt k e).1; omega)⟩
theorem blk_own {W : World} {base b n e size : Nat} {v : Value} {xs : List Value} {vs : Array Value} {t : TypeId} (h : W.ownsRow base e size v n xs) (hB : Blk W b vs t) (hn : t ≠ e) : v.ownBlock ≠ some b := by
  intro hv
  rcases h.2 with ⟨h2, _⟩ | ⟨g, cap, cur, h2, hb, hg, _⟩
  · rw [h2] at hv; cases hv
  · rw [h2] at hv
    have hv' : g = b := by simpa [Value.ownBlock] using hv
    subst hv'
    unfold Blk at hB
    rw [hg] at hB
    cases hB
    exact hn rfl
theorem own_chgT {W W' : World} {base b n e size : Nat} {v : Value} {xs : List Value} (h : W.ownsRow base e size v n xs) (hc : Chg b W W') (hn : v.ownBlock ≠ some b) : W'.ownsRow base e size v n xs := by
  refine ⟨h.1, ?_⟩
  rcases h.2 with h2 | ⟨g, cap, cur, rfl, hb, hg, h4⟩
  · exact .inl h2
  · exact .inr ⟨g, cap, cur, rfl, hb, Blk.chg hg hc (fun e => hn (by rw [e]; rfl)), h4⟩
theorem blk_grownT {W W' : World} {b : Nat} {vs : Array Value} {t : TypeId} {row : Option Nat} (h : Blk W b vs t) (hg : W.grownBy W' row) (hn : row ≠ some b) : Blk W' b vs t := by
  unfold Blk
  rw [hg.block b h.lt (fun e => hn e.symm)]
  exact h
theorem Tp.apart {W : World} {base b : Nat} {v : Value} {S : TS} (h : Tp W base b v S) : v.ownBlock ≠ some b := blk_own h.own h.blk (by decide)
theorem Tp.keep {W W' : World} {base b : Nat} {v : Value} {S : TS} (h : Tp W base b v S) (hb : Below W.heap.size W W') : Tp W' base b v S :=
  ⟨h.ge, h.blk.keep hb, own_keep h.own hb, h.sure, h.max, h.bo, h.br⟩
theorem Tp.less {W : World} {base base' b : Nat} {v : Value} {S : TS} (h : Tp W base b v S) (hb : base' ≤ base) : Tp W base' b v S :=
  ⟨Nat.le_trans hb h.ge, h.blk, own_less h.own hb, h.sure, h.max, h.bo, h.br⟩
theorem Tp.sl {W : World} {base b : Nat} {v : Value} {S : TS} (h : Tp W base b v S) : Sl W v S.l := (own_sl h.own).2
/-- Numbers of it have turned: its bytes are the same. -/
theorem Tp.chg {W W' : World} {base b : Nat} {v : Value} {S S' : TS} (h : Tp W base b v S) (hB : Blk W' b (tcs v S') 76) (hc : Chg b W W') (hl : S'.l = S.l) (hs : S'.sure ≤ S.l.length) (ho : S'.oa ≤ 9223372036854775807) (hr : S'.ra ≤ 9223372036854775807) : Tp W' base b v S' :=
  ⟨h.ge, hB, by rw [hl]; exact own_chgT h.own hc h.apart, by rw [hl]; exact hs, by rw [hl]; exact h.max, ho, hr⟩
/-- The eight cells of a tape. -/
structure Oct (W : World) (b : Nat) (v : Value) (S : TS) : Prop where
  c0 : W.cell? ⟨b, 0, none⟩ = some v
  c1 : W.cell? ⟨b, 1, none⟩ = some (.int .i64 ((S.sure : Nat) : Int))
  c2 : W.cell? ⟨b, 2, none⟩ = some (.int .i64 ((S.steps : Nat) : Int))
  c3 : W.cell? ⟨b, 3, none⟩ = some (.bool S.os)
  c4 : W.cell? ⟨b, 4, none⟩ = some (.int .i64 ((S.oa : Nat) : Int))
  c5 : W.cell? ⟨b, 5, none⟩ = some (.bool S.rs)
  c6 : W.cell? ⟨b, 6, none⟩ = some (.int .i64 ((S.ra : Nat) : Int))
  c7 : W.cell? ⟨b, 7, none⟩ = some (.bool S.down)
theorem Tp.oct {W : World} {base b : Nat} {v : Value} {S : TS} (h : Tp W base b v S) : Oct W b v S :=
  ⟨h.blk.at rfl, h.blk.at rfl, h.blk.at rfl, h.blk.at rfl, h.blk.at rfl, h.blk.at rfl, h.blk.at rfl, h.blk.at rfl⟩
theorem Tp.frozen {W : World} {base b : Nat} {v : Value} {S : TS} (h : Tp W base b v S) (i : Nat) : W.frozen? ⟨b, i, none⟩ = false := h.blk.frozen i
theorem Tp.form {W : World} {base b : Nat} {v : Value} {S : TS} (h : Tp W base b v S) : ∃ q cap, v = .slice q S.l.length cap ∧ S.l.length ≤ cap ∧ cap ≤ 9223372036854775807 := by
  obtain ⟨q, cap, g, off, e, h1, h2, _⟩ := h.sl.open
  exact ⟨q, cap, e, h1, h2⟩

/-- The error of a number. -/
def errV (n : Nat) : Value := if n = 0 then .nilIface else Err n
theorem errV_ok {n : Nat} (h : n = 0) : errV n = .nilIface := if_pos h
theorem errV_no {n : Nat} (h : n ≠ 0) : errV n = Err n := if_neg h

/-- append of bytes onto an own slice: its run, wherever the slice may lie. -/
theorem app_runB {w : World} (base : Nat) (ty : TypeId) {v vx : Value} {n k : Nat} {l m : List Nat} (hown : w.ownsRow base 5 1 v n (bys l)) (hsl : Sl w vx m) (hm : m.length = k) (h63 : n + k ≤ 4000000) (hA : base ≤ w.heap.size) :
    ∃ v' w', (Builtin.append_ #[39, 39] ty #[v, vx]).run Try.prog w = .ok v' w' ∧ w'.ownsRow base 5 1 v' (n + k) (bys (l ++ m)) ∧ w.grownBy w' v.ownBlock ∧ (v'.ownBlock = v.ownBlock ∨ v'.ownBlock = some w.heap.size) := by
  obtain ⟨i, hi, hz0, hz1, hz2⟩ := info_parts infoByte
  subst hm
  obtain ⟨q, cap, rfl, hq, hsrc⟩ := hsl.src
  cases q with
  | none =>
    have h0 := hq rfl
    have hm0 : m = [] := List.eq_nil_of_length_eq_zero h0
    subst hm0
    exact ⟨v, w, append_none (P := Try.prog) w base 39 ty 5 i 1 cap Try.underlying39 hi v n (bys l) hown, by simpa using hown, ⟨rfl, rfl, rfl, Nat.le_refl _, fun _ _ _ => rfl⟩, .inl rfl⟩
  | some ad =>
    obtain ⟨v', w', hr, h2, h3, h4, h5⟩ := run_append_own_at (P := Try.prog) w base 39 ty 5 i _ 1 1 Try.underlying39 hi hz0 hz1 hz2 rfl (by omega) v n (bys l) hown ad m.length cap (bys m) (by rw [bys_len, Nat.mul_one]) (hsrc ad rfl) (bys_one m) (by unfold maxLen; omega) (by omega) hA
    exact ⟨v', w', hr, by rw [← bys_append]; exact h2, h3, h5⟩
theorem app_t {ops : Array Oper} {rest : List Oper} {o : Oper} {a : Act} {w : World} {Q : Exit → Act → World → Prop} (base : Nat) (hw : Region.wanted o (yielded ops a.tmps) = true) {s x : Operand} (ho : o.op = .call { callee := .builtin .append, args := #[s, x], argTypes := #[39, 39] })
    {v vx : Value} {n k : Nat} {l m : List Nat} (hs : a.eval s = v) (hown : w.ownsRow base 5 1 v n (bys l)) (hx : a.eval x = vx) (hsl : Sl w vx m) (hm : m.length = k) (h63 : n + k ≤ 4000000) (hA : base ≤ w.heap.size)
    (h : ∀ v' w', w'.ownsRow base 5 1 v' (n + k) (bys (l ++ m)) → w.grownBy w' v.ownBlock → (v'.ownBlock = v.ownBlock ∨ v'.ownBlock = some w.heap.size) → wpList Try.prog ops Q rest (a.put o.dst v') w') : wpList Try.prog ops Q (o :: rest) a w := by
  obtain ⟨v', w', hr, h1, h2, h3⟩ := app_runB base o.type hown hsl hm h63 hA
  unfold wpList
  rw [if_pos hw]
  left
  unfold Oper.wp execOp
  simp only [ho, resolve, invoke, builtin, Sem.run_bind, Sem.run_pure, Result.andThen_ok, List.map_toArray, List.map_cons, List.map_nil, hs, hx, hr]
  exact h v' w' h1 h2 h3
theorem below_own {w w' : World} {base : Nat} {v : Value} {n : Nat} {xs : List Value} (h : w.ownsRow base 5 1 v n xs) (hA : base ≤ w.heap.size) (hg : w.grownBy w' v.ownBlock) : Below base w w' :=
  (Below.refl _ _).grown hg hA (fun r hr => (h.lt r hr).1)
set_option maxHeartbeats 400000 in
theorem clone_big (v : Value) (l : List Nat) (w : World) (hv : Sl w v l) (hn : l.length ≤ 4000000) :
    Calls Try.prog 47 #[v] w fun e w' => ∃ v', e = .returned v' ∧ w'.ownsRow w.heap.size 5 1 v' l.length (bys l) ∧ Below w.heap.size w w' := by
  obtain ⟨q, cap, g, off, rfl, hc, hm, hp, hg, hr⟩ := hv.open
  cases q with
  | none =>
    have h0 : ¬ 0 < l.length := fun h => by have := hp h; cases this
    have : l = [] := List.eq_nil_of_length_eq_zero (by omega)
    subst this
    clear hv hr hp hg
    have he := eq_nil none 0 cap w
    go_enter Try.func47, Try.ntmps47
    go_wp2_with fail
    go_ret
    exact ⟨_, rfl, World.ownsRow_nil w _ _ _, Below.refl _ _⟩
  | some ad =>
    clear hr hp hg
    generalize hl : l.length = n at *
    have he := eq_nil (some ad) n cap w
    go_enter Try.func47, Try.ntmps47
    go_wp2_with (first
        | (refine bs_by rfl rfl [] (vs := #[]) (by simp) (bsb0 _) rfl (by decide) ?_; intro W1 hN b1 z1)
        | (at_builtin; refine app_t w.heap.size rfl rfl rfl hN rfl (hv.keep b1) hl (by omega) b1.size ?_; intro v' W2 hown2 hgr2 hat2))
    go_ret
    exact ⟨_, rfl, by simpa using hown2, b1.trans (below_own hN b1.size hgr2)⟩
end Go.Proofs.Ytalbiggmmmkclaa
