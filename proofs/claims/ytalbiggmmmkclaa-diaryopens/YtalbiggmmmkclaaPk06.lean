/-
  What the laws call besides: alive, large, estuarynum.Num.
  append of numbers onto an own slice of numbers, and where it lies then.
  A tape in memory: its struct's cells, and its bytes as a slice of the call's own.
  tape's small functions: New, Sure, Steps, Down, room, Read, comes, step, fit.
-/
import Derived.Test.YtalbiggmmmkclaaPk05
import Derived.Lib.SmallJoins
namespace Go.Proofs.Ytalbiggmmmkclaa
open Go.RowKit
set_option linter.unusedVariables false

theorem ex_nums : strB ([] ++ numsB [0, -1, 1, -300]) = ⟨#[0, 1, 1, 1, 2, 2, 87, 2]⟩ := by decide +kernel
theorem ex_frm : strB (frm ([] : List (List Nat)).flatten) = ⟨#[0, 0, 0, 0, 197, 157, 28, 129]⟩ := by decide +kernel
/-- What large answers. -/
def LP (ls : List (List Nat)) (e : Ending) : Prop := ∃ r : Bool, e = .returned (.bool r) ∧ (r = false → ls.length ≤ 300 ∧ ls.flatten.length ≤ 65536)
theorem num_nil (w : World) : Calls Try.prog 15 #[.nilIface] w fun e w' => e = .returned (.int .i64 0) ∧ w' = w := by
  go_enter Try.func15, Try.ntmps15
  go_wp2_with fail
  go_ret
  exact ⟨rfl, rfl⟩
theorem ta_err (n : Int) (w : World) : (Instr.typeAssert (Err n) 33 62 true).run Try.prog w = .ok (.tuple #[.int .i64 n, .bool true]) w := by kernel_rfl
theorem num_err (n : Int) (hn : n ≠ 0) (w : World) : Calls Try.prog 15 #[Err n] w fun e w' => e = .returned (.int .i64 n) ∧ w' = w := by
  have h0 : (n == 0) = false := by simp [hn]
  have ht := ta_err n w
  go_enter Try.func15, Try.ntmps15
  go_wp2_with fail
  go_ret
  exact ⟨rfl, rfl⟩
/-- '==' of two errors. -/
theorem eq33 (w : World) : (binOp .eql 33 (Err 3) (Err 3)).run Try.prog w = .ok (.bool true) w := by kernel_rfl
theorem ne33 (w : World) : (binOp .neq 33 (Err 3) (Err 3)).run Try.prog w = .ok (.bool false) w := by kernel_rfl
theorem eq77 (w : World) : (binOp .eql 33 (Err 7) (Err 7)).run Try.prog w = .ok (.bool true) w := by kernel_rfl
theorem eq30 (w : World) : (binOp .eql 33 (Err 3) .nilIface).run Try.prog w = .ok (.bool false) w := by kernel_rfl
theorem ne30 (w : World) : (binOp .neq 33 (Err 3) .nilIface).run Try.prog w = .ok (.bool true) w := by kernel_rfl
theorem ne70 (w : World) : (binOp .neq 33 (Err 7) .nilIface).run Try.prog w = .ok (.bool true) w := by kernel_rfl
theorem ne00 (w : World) : (binOp .neq 33 .nilIface .nilIface).run Try.prog w = .ok (.bool false) w := by kernel_rfl
theorem eq00 (w : World) : (binOp .eql 33 .nilIface .nilIface).run Try.prog w = .ok (.bool true) w := by kernel_rfl
end Go.Proofs.Ytalbiggmmmkclaa
namespace Go.Proofs.Ytalbiggmmmkclaa
open Go.RowKit
set_option linter.unusedVariables false

/-- What append asks of its source. -/
theorem Is.src {W : World} {v : Value} {l : List Int} (h : Is W v l) : ∃ q cap, v = .slice q l.length cap ∧ (q = none → l.length = 0) ∧ (∀ ad, q = some ad → ∀ j u, (ints l)[j]? = some u → W.cell? (ad.add j) = some u) := by
  obtain ⟨q, cap, g, off, rfl, h1, h2, h3, h4, h5⟩ := h
  refine ⟨q, cap, rfl, fun hq => ?_, fun ad had j u hu => ?_⟩
  · by_cases h0 : 0 < l.length
    · have e := h3 h0
      rw [hq] at e; cases e
    · omega
  · rw [ints_at] at hu
    cases hx : l[j]? with
    | none => rw [hx] at hu; simp at hu
    | some x =>
      rw [hx] at hu
      have e := h3 (by have := (List.getElem?_eq_some_iff.1 hx).1; omega)
      rw [had] at e
      cases e
      rw [Addr.add_mid, h5 j x hx]
      simpa using hu
/-- A slice of numbers of the call's own. -/
def Io (W : World) (base : Nat) (v : Value) (l : List Int) : Prop := W.ownsRow base 3 1 v l.length (ints l)
theorem io_of {W : World} {base n : Nat} {v : Value} {l : List Int} (h : W.ownsRow base 3 1 v n (ints l)) : Io W base v l := by
  have := h.1
  rw [ints_len, Nat.mul_one] at this
  unfold Io
  rw [this]
  exact h
theorem Io.is {W : World} {base : Nat} {v : Value} {l : List Int} (h : Io W base v l) : Is W v l := own_is h
theorem Io.keep {W W' : World} {base : Nat} {v : Value} {l : List Int} (h : Io W base v l) (hb : Below W.heap.size W W') : Io W' base v l := own_keep h hb
theorem Io.less {W : World} {base base' : Nat} {v : Value} {l : List Int} (h : Io W base v l) (hb : base' ≤ base) : Io W base' v l := own_less h hb
theorem Io.lt {W : World} {base : Nat} {v : Value} {l : List Int} (h : Io W base v l) : ∀ k, v.ownBlock = some k → base ≤ k ∧ k < W.heap.size := World.ownsRow.lt h
theorem Io.kept {W W' : World} {base : Nat} {v x : Value} {l : List Int} (h : Io W base v l) (hg : W.grownBy W' x.ownBlock) (hs : Sep v x) : Io W' base v l := World.ownsRow.kept h hg hs.row
/-- Blocks stay apart where one of them grows. -/
theorem sep_at {a b b' : Value} {m : Nat} (h : Sep a b) (hl : ∀ k, a.ownBlock = some k → k < m) (hat : b'.ownBlock = b.ownBlock ∨ b'.ownBlock = some m) : Sep a b' := by
  intro k hk
  rcases hat with e | e
  · rw [e]; exact h k hk
  · rw [e]; intro he; have := hl k hk; simp at he; omega
section
variable {ops : Array Oper} {rest : List Oper} {o : Oper} {a : Act} {w : World} {Q : Exit → Act → World → Prop}
/-- An operation that yields, at one operation. -/
theorem valWf {K : Act → World → Prop} (d : Option Tmp) (hd : o.dst = d) (v : Value) (hr : (execOp a.eval o).run Try.prog w = .ok (.value v) w) (h : K (a.put d v) w) : o.wp Try.prog a w K Q := by
  subst hd
  unfold Oper.wp
  rw [hr, Oper.upon_value]
  exact h
theorem cv_run {ρ : Operand → Value} {x : Operand} (ho : o.op = .convert 39 9 x) {v : Value} {l : List Nat} (hx : ρ x = v) (h : Sl w v l) : (execOp ρ o).run Try.prog w = .ok (.value (.string (strB l))) w := by
  unfold execOp
  simp only [ho, hx, Sem.run_bind, sl_str h, Result.andThen_ok, Sem.run_pure]
end
end Go.Proofs.Ytalbiggmmmkclaa
namespace Go.Proofs.Ytalbiggmmmkclaa
open Go.RowKit
set_option linter.unusedVariables false

/-- What a tape holds: bytes, how many are sure, steps, the outage, the refusal, down. -/
structure TS where
  l : List Nat
  sure : Nat
  steps : Nat
  os : Bool
  oa : Nat
  rs : Bool
  ra : Nat
  down : Bool
def tcs (v : Value) (S : TS) : Array Value := #[v, .int .i64 ((S.sure : Nat) : Int), .int .i64 ((S.steps : Nat) : Int), .bool S.os, .int .i64 ((S.oa : Nat) : Int), .bool S.rs, .int .i64 ((S.ra : Nat) : Int), .bool S.down]
/-- A tape at block b. -/
structure Tp (W : World) (base b : Nat) (v : Value) (S : TS) : Prop where
  ge : base ≤ b
  blk : Blk W b (tcs v S) 76
  own : W.ownsRow base 5 1 v S.l.length (bys S.l)
  sure : S.sure ≤ S.l.length
  max : S.l.length ≤ 1048576
  bo : S.oa ≤ 9223372036854775807
  br : S.ra ≤ 9223372036854775807
/-- Nothing but the tape's own memory has turned. -/
structure Mv (b : Nat) (w w' : World) (v v' : Value) : Prop where
  os : w'.os = w.os
  tape : w'.tape = w.tape
  output : w'.output = w.output
  size : w.heap.size ≤ w'.heap.size
  other : ∀ k, k < w.heap.size → k ≠ b → v.ownBlock ≠ some k → w'.heap[k]? = w.heap[k]?
  next : ∀ r, v'.ownBlock = some r → v.ownBlock = some r ∨ w.heap.size ≤ r
theorem Mv.refl (b : Nat) (w : World) (v : Value) : Mv b w w v v := ⟨rfl, rfl, rfl, Nat.le_refl _, fun _ _ _ _ => rfl, fun _ h => .inl h⟩
theorem Mv.trans {b : Nat} {w w' w'' : World} {v v' v'' : Value} (h : Mv b w w' v v') (k : Mv b w' w'' v' v'') : Mv b w w'' v v'' :=
  ⟨k.os.trans h.os, k.tape.trans h.tape, k.output.trans h.output, Nat.le_trans h.size k.size,
   fun i hi hb hv => (k.other i (Nat.lt_of_lt_of_le hi h.size) hb (fun e => by
     rcases h.next i e with e | e
     · exact hv e
     · omega)).trans (h.other i hi hb hv),
   fun r hr => by
     rcases k.next r hr with e | e
     · exact h.next r e
     · exact .inr (Nat.le_trans h.size e)⟩
theorem mv_chg {b : Nat} {w w' : World} (v : Value) (h : Chg b w w') : Mv b w w' v v := ⟨h.os, h.tape, h.output, Nat.le_of_eq h.size.symm, fun k _ hk _ => h.other k hk, fun _ h => .inl h⟩
theorem mv_below {b : Nat} {w w' : World} (v : Value) (h : Below w.heap.size w w') : Mv b w w' v v := ⟨h.os, h.tape, h.output, h.size, fun k hk _ _ => h.block k hk, fun _ h => .inl h⟩
theorem mv_grown {b : Nat} {w w' : World} {v v' : Value} (h : w.grownBy w' v.ownBlock) (ha : v'.ownBlock = v.ownBlock ∨ v'.ownBlock = some w.heap.size) : Mv b w w' v v' :=
  ⟨h.os, h.tape, h.output, h.size, fun k hk _ hv => h.block k hk (fun e => hv e.symm), fun r hr => by
    rcases ha with e | e
    · exact .inl (by rw [← e]; exact hr)
    · rw [e] at hr; cases hr; exact .inr (Nat.le_refl _)⟩
theorem Tp.lt {W : World} {base b : Nat} {v : Value} {S : TS} (h : Tp W base b v S) : base < W.heap.size := Nat.lt_of_le_of_lt h.ge h.blk.lt
theorem Tp.below {W W' : World} {base b : Nat} {v v' : Value} {S : TS} (h : Tp W base b v S) (m : Mv b W W' v v') : Below base W W' :=
  ⟨m.os, m.tape, m.output, m.size, fun k hk => m.other k (Nat.lt_trans hk h.lt) (by have := h.ge; omega) (fun e => by have := (h.own.lt k e).1; omega)⟩
theorem blk_own {W : World} {base b n e size : Nat} {v : Value} {xs : List Value} {vs : Array Value} {t : TypeId} (h : W.ownsRow base e size v n xs) (hB : Blk W b vs t) (hn : t ≠ e) : v.ownBlock ≠ some b := by
  intro hv
  rcases h.2 with ⟨h2, _⟩ | ⟨g, cap, cur, h2, hb, hg, _⟩
  · rw [h2] at hv; cases hv
  · rw [h2] at hv
    have hv' : g = b := by simpa [Value.ownBlock] using hv
    subst hv'
    unfold Blk at hB
    rw [hg] at hB
    cases hB
    exact hn rfl
theorem own_chgT {W W' : World} {base b n e size : Nat} {v : Value} {xs : List Value} (h : W.ownsRow base e size v n xs) (hc : Chg b W W') (hn : v.ownBlock ≠ some b) : W'.ownsRow base e size v n xs := by
  refine ⟨h.1, ?_⟩
  rcases h.2 with h2 | ⟨g, cap, cur, rfl, hb, hg, h4⟩
  · exact .inl h2
  · exact .inr ⟨g, cap, cur, rfl, hb, Blk.chg hg hc (fun e => hn (by rw [e]; rfl)), h4⟩
theorem blk_grownT {W W' : World} {b : Nat} {vs : Array Value} {t : TypeId} {row : Option Nat} (h : Blk W b vs t) (hg : W.grownBy W' row) (hn : row ≠ some b) : Blk W' b vs t := by
  unfold Blk
  rw [hg.block b h.lt (fun e => hn e.symm)]
  exact h
theorem Tp.apart {W : World} {base b : Nat} {v : Value} {S : TS} (h : Tp W base b v S) : v.ownBlock ≠ some b := blk_own h.own h.blk (by decide)
theorem Tp.keep {W W' : World} {base b : Nat} {v : Value} {S : TS} (h : Tp W base b v S) (hb : Below W.heap.size W W') : Tp W' base b v S :=
  ⟨h.ge, h.blk.keep hb, own_keep h.own hb, h.sure, h.max, h.bo, h.br⟩
theorem Tp.less {W : World} {base base' b : Nat} {v : Value} {S : TS} (h : Tp W base b v S) (hb : base' ≤ base) : Tp W base' b v S :=
  ⟨Nat.le_trans hb h.ge, h.blk, own_less h.own hb, h.sure, h.max, h.bo, h.br⟩
theorem Tp.sl {W : World} {base b : Nat} {v : Value} {S : TS} (h : Tp W base b v S) : Sl W v S.l := (own_sl h.own).2
/-- Numbers of it have turned: its bytes are the same. -/
theorem Tp.chg {W W' : World} {base b : Nat} {v : Value} {S S' : TS} (h : Tp W base b v S) (hB : Blk W' b (tcs v S') 76) (hc : Chg b W W') (hl : S'.l = S.l) (hs : S'.sure ≤ S.l.length) (ho : S'.oa ≤ 9223372036854775807) (hr : S'.ra ≤ 9223372036854775807) : Tp W' base b v S' :=
  ⟨h.ge, hB, by rw [hl]; exact own_chgT h.own hc h.apart, by rw [hl]; exact hs, by rw [hl]; exact h.max, ho, hr⟩
/-- The eight cells of a tape. -/
structure Oct (W : World) (b : Nat) (v : Value) (S : TS) : Prop where
  c0 : W.cell? ⟨b, 0, none⟩ = some v
  c1 : W.cell? ⟨b, 1, none⟩ = some (.int .i64 ((S.sure : Nat) : Int))
  c2 : W.cell? ⟨b, 2, none⟩ = some (.int .i64 ((S.steps : Nat) : Int))
  c3 : W.cell? ⟨b, 3, none⟩ = some (.bool S.os)
  c4 : W.cell? ⟨b, 4, none⟩ = some (.int .i64 ((S.oa : Nat) : Int))
  c5 : W.cell? ⟨b, 5, none⟩ = some (.bool S.rs)
  c6 : W.cell? ⟨b, 6, none⟩ = some (.int .i64 ((S.ra : Nat) : Int))
  c7 : W.cell? ⟨b, 7, none⟩ = some (.bool S.down)
theorem Tp.oct {W : World} {base b : Nat} {v : Value} {S : TS} (h : Tp W base b v S) : Oct W b v S :=
  ⟨h.blk.at rfl, h.blk.at rfl, h.blk.at rfl, h.blk.at rfl, h.blk.at rfl, h.blk.at rfl, h.blk.at rfl, h.blk.at rfl⟩
theorem Tp.frozen {W : World} {base b : Nat} {v : Value} {S : TS} (h : Tp W base b v S) (i : Nat) : W.frozen? ⟨b, i, none⟩ = false := h.blk.frozen i
theorem Tp.form {W : World} {base b : Nat} {v : Value} {S : TS} (h : Tp W base b v S) : ∃ q cap, v = .slice q S.l.length cap ∧ S.l.length ≤ cap ∧ cap ≤ 9223372036854775807 := by
  obtain ⟨q, cap, g, off, e, h1, h2, _⟩ := h.sl.open
  exact ⟨q, cap, e, h1, h2⟩

/-- The error of a number. -/
def errV (n : Nat) : Value := if n = 0 then .nilIface else Err n
theorem errV_ok {n : Nat} (h : n = 0) : errV n = .nilIface := if_pos h
theorem errV_no {n : Nat} (h : n ≠ 0) : errV n = Err n := if_neg h

/-- append of bytes onto an own slice: its run, wherever the slice may lie. -/
theorem app_runB {w : World} (base : Nat) (ty : TypeId) {v vx : Value} {n k : Nat} {l m : List Nat} (hown : w.ownsRow base 5 1 v n (bys l)) (hsl : Sl w vx m) (hm : m.length = k) (h63 : n + k ≤ 4000000) (hA : base ≤ w.heap.size) :
    ∃ v' w', (Builtin.append_ #[39, 39] ty #[v, vx]).run Try.prog w = .ok v' w' ∧ w'.ownsRow base 5 1 v' (n + k) (bys (l ++ m)) ∧ w.grownBy w' v.ownBlock ∧ (v'.ownBlock = v.ownBlock ∨ v'.ownBlock = some w.heap.size) := by
  obtain ⟨i, hi, hz0, hz1, hz2⟩ := info_parts infoByte
  subst hm
  obtain ⟨q, cap, rfl, hq, hsrc⟩ := hsl.src
  cases q with
  | none =>
    have h0 := hq rfl
    have hm0 : m = [] := List.eq_nil_of_length_eq_zero h0
    subst hm0
    exact ⟨v, w, append_none (P := Try.prog) w base 39 ty 5 i 1 cap Try.underlying39 hi v n (bys l) hown, by simpa using hown, ⟨rfl, rfl, rfl, Nat.le_refl _, fun _ _ _ => rfl⟩, .inl rfl⟩
  | some ad =>
    obtain ⟨v', w', hr, h2, h3, h4, h5⟩ := run_append_own_at (P := Try.prog) w base 39 ty 5 i _ 1 1 Try.underlying39 hi hz0 hz1 hz2 rfl (by omega) v n (bys l) hown ad m.length cap (bys m) (by rw [bys_len, Nat.mul_one]) (hsrc ad rfl) (bys_one m) (by unfold maxLen; omega) (by omega) hA
    exact ⟨v', w', hr, by rw [← bys_append]; exact h2, h3, h5⟩
theorem app_t {ops : Array Oper} {rest : List Oper} {o : Oper} {a : Act} {w : World} {Q : Exit → Act → World → Prop} (base : Nat) (hw : Region.wanted o (yielded ops a.tmps) = true) {s x : Operand} (ho : o.op = .call { callee := .builtin .append, args := #[s, x], argTypes := #[39, 39] })
    {v vx : Value} {n k : Nat} {l m : List Nat} (hs : a.eval s = v) (hown : w.ownsRow base 5 1 v n (bys l)) (hx : a.eval x = vx) (hsl : Sl w vx m) (hm : m.length = k) (h63 : n + k ≤ 4000000) (hA : base ≤ w.heap.size)
    (h : ∀ v' w', w'.ownsRow base 5 1 v' (n + k) (bys (l ++ m)) → w.grownBy w' v.ownBlock → (v'.ownBlock = v.ownBlock ∨ v'.ownBlock = some w.heap.size) → wpList Try.prog ops Q rest (a.put o.dst v') w') : wpList Try.prog ops Q (o :: rest) a w := by
  obtain ⟨v', w', hr, h1, h2, h3⟩ := app_runB base o.type hown hsl hm h63 hA
  unfold wpList
  rw [if_pos hw]
  left
  unfold Oper.wp execOp
  simp only [ho, resolve, invoke, builtin, Sem.run_bind, Sem.run_pure, Result.andThen_ok, List.map_toArray, List.map_cons, List.map_nil, hs, hx, hr]
  exact h v' w' h1 h2 h3
theorem below_own {w w' : World} {base : Nat} {v : Value} {n : Nat} {xs : List Value} (h : w.ownsRow base 5 1 v n xs) (hA : base ≤ w.heap.size) (hg : w.grownBy w' v.ownBlock) : Below base w w' :=
  (Below.refl _ _).grown hg hA (fun r hr => (h.lt r hr).1)
set_option maxHeartbeats 400000 in
theorem clone_big (v : Value) (l : List Nat) (w : World) (hv : Sl w v l) (hn : l.length ≤ 4000000) :
    Calls Try.prog 47 #[v] w fun e w' => ∃ v', e = .returned v' ∧ w'.ownsRow w.heap.size 5 1 v' l.length (bys l) ∧ Below w.heap.size w w' := by
  obtain ⟨q, cap, g, off, rfl, hc, hm, hp, hg, hr⟩ := hv.open
  cases q with
  | none =>
    have h0 : ¬ 0 < l.length := fun h => by have := hp h; cases this
    have : l = [] := List.eq_nil_of_length_eq_zero (by omega)
    subst this
    clear hv hr hp hg
    have he := eq_nil none 0 cap w
    go_enter Try.func47, Try.ntmps47
    go_wp2_with fail
    go_ret
    exact ⟨_, rfl, World.ownsRow_nil w _ _ _, Below.refl _ _⟩
  | some ad =>
    clear hr hp hg
    generalize hl : l.length = n at *
    have he := eq_nil (some ad) n cap w
    go_enter Try.func47, Try.ntmps47
    go_wp2_with (first
        | (refine bs_by rfl rfl [] (vs := #[]) (by simp) (bsb0 _) rfl (by decide) ?_; intro W1 hN b1 z1)
        | (at_builtin; refine app_t w.heap.size rfl rfl rfl hN rfl (hv.keep b1) hl (by omega) b1.size ?_; intro v' W2 hown2 hgr2 hat2))
    go_ret
    exact ⟨_, rfl, by simpa using hown2, b1.trans (below_own hN b1.size hgr2)⟩
end Go.Proofs.Ytalbiggmmmkclaa
namespace Go.Proofs.Ytalbiggmmmkclaa
open Go.RowKit
set_option linter.unusedVariables false

abbrev tptr (b : Nat) : Value := .pointer (some ⟨b, 0, none⟩)
/-- A new tape. -/
abbrev ts0 : TS := ⟨[], 0, 0, false, 0, false, 0, false⟩
theorem new_any (w : World) : Calls Try.prog 11 #[] w fun e w' => e = .returned (tptr w.heap.size) ∧ Tp w' w.heap.size w.heap.size (.slice none 0 0) ts0 ∧ Below w.heap.size w w' := by
  go_enter Try.func11, Try.ntmps11
  go_wp2_with fail
  go_ret
  exact ⟨rfl, ⟨Nat.le_refl _, Blk.new _ _ _, World.ownsRow_nil _ _ _ _, Nat.le_refl _, by simp, by simp, by simp⟩, (Below.refl _ _).alloc (Nat.le_refl _) _⟩
theorem steps_any (b : Nat) (n : Int) (w : World) (c2 : w.cell? ⟨b, 2, none⟩ = some (.int .i64 n)) :
    Calls Try.prog 33 #[tptr b] w fun e w' => e = .returned (.int .i64 n) ∧ w' = w := by
  go_enter Try.func33, Try.ntmps33
  go_wp2_with fail
  go_ret
  exact ⟨rfl, rfl⟩
theorem down_any (b : Nat) (x : Bool) (w : World) (c7 : w.cell? ⟨b, 7, none⟩ = some (.bool x)) :
    Calls Try.prog 35 #[tptr b] w fun e w' => e = .returned (.bool x) ∧ w' = w := by
  go_enter Try.func35, Try.ntmps35
  go_wp2_with fail
  go_ret
  exact ⟨rfl, rfl⟩
theorem room_any (b : Nat) (q : Option Addr) (n cap : Nat) (w : World) (c0 : w.cell? ⟨b, 0, none⟩ = some (.slice q n cap)) (hn : n ≤ 1048576) :
    Calls Try.prog 59 #[tptr b] w fun e w' => e = .returned (.int .i64 ((1048576 - n : Nat) : Int)) ∧ w' = w := by
  go_enter Try.func59, Try.ntmps59
  go_wp2_with fail
  go_ret
  exact ⟨ret_int (by omega), rfl⟩
theorem tread_any (base b : Nat) (v : Value) (S : TS) (w : World) (h : Tp w base b v S) :
    Calls Try.prog 32 #[tptr b] w fun e w' => ∃ v', e = .returned v' ∧ Ow w' w.heap.size v' S.l ∧ Below w.heap.size w w' := by
  have c0 := h.oct.c0
  have hs := h.sl
  have hm := h.max
  go_enter Try.func32, Try.ntmps32
  go_wp2_with (go_at_call 47; refine (clone_big _ _ _ hs (by omega)).mono ?_; rintro e W1 ⟨v1, rfl, hown, hb⟩)
  go_ret
  exact ⟨_, rfl, ow_of hown, hb⟩
theorem comes_no (b o : Nat) (w : World) (c : w.cell? ⟨b, o, none⟩ = some (.bool false)) :
    Calls Try.prog 61 #[.pointer (some ⟨b, o, none⟩)] w fun e w' => e = .returned (.bool false) ∧ w' = w := by
  go_enter Try.func61, Try.ntmps61
  go_wp2_with fail
  go_ret
  exact ⟨rfl, rfl⟩
theorem comes_yes (b o : Nat) (w : World) (c : w.cell? ⟨b, o, none⟩ = some (.bool true)) (c' : w.cell? ⟨b, o + 1, none⟩ = some (.int .i64 0)) (f : w.frozen? ⟨b, o, none⟩ = false) (f' : w.frozen? ⟨b, o + 1, none⟩ = false) :
    Calls Try.prog 61 #[.pointer (some ⟨b, o, none⟩)] w fun e w' => e = .returned (.bool true) ∧ w' = (w.setCell ⟨b, o, none⟩ (.bool false)).setCell ⟨b, o + 1, none⟩ (.int .i64 0) := by
  go_enter Try.func61, Try.ntmps61
  go_wp2_with fail
  go_ret
  exact ⟨rfl, rfl⟩
theorem comes_near (b o n : Nat) (w : World) (hn : n < 9223372036854775807) (c : w.cell? ⟨b, o, none⟩ = some (.bool true)) (c' : w.cell? ⟨b, o + 1, none⟩ = some (.int .i64 ((n + 1 : Nat) : Int))) (f : w.frozen? ⟨b, o, none⟩ = false) (f' : w.frozen? ⟨b, o + 1, none⟩ = false) :
    Calls Try.prog 61 #[.pointer (some ⟨b, o, none⟩)] w fun e w' => e = .returned (.bool false) ∧ w' = w.setCell ⟨b, o + 1, none⟩ (.int .i64 ((n : Nat) : Int)) := by
  have h0 : (((n + 1 : Nat) : Int) == 0) = false := by simp; omega
  have h1 : ((n + 1 : Nat) : Int) - 1 = ((n : Nat) : Int) := by omega
  generalize ((n + 1 : Nat) : Int) = N at *
  have hN : N = n + 1 := by omega
  go_enter Try.func61, Try.ntmps61
  go_wp2_with fail
  go_ret
  exact ⟨rfl, rfl⟩
end Go.Proofs.Ytalbiggmmmkclaa
