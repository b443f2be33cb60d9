/-
  Strings of bytes: lengths, sums, parts.
  The document's tape (estuaryref06): its cells; step.
  The document's tape: Append, Sync, Replace, Cut, Crash; estuarynum.Num of any error.
  The document's tape: Crash; estuarynum.Over.
  estuarynum.Over; both tapes side by side; Mw: nothing but the tape's memory and block r has turned.
-/
import Derived.Test.YthmolbcnbcajdaaGreatPk33
import Derived.Laws.Concat
import Derived.Test.YthmolbcnbcajdaaGreatPk22
namespace Go.Proofs.YthmolbcnbcajdaaGreat
set_option maxRecDepth 100000
open Go.RowKit
set_option linter.unusedVariables false

theorem add_strs (a b : ByteArray) (h : a.size + b.size ≤ 9223372036854775807) (w : World) : (binOp .add 9 (.string a) (.string b)).run Tryz.prog w = .ok (.string (a ++ b)) w := by
  have := run_string_add_sum (P := Tryz.prog) (w := w) a b h
  simp [binOp, this]
theorem add_strB (l m : List Nat) (h : l.length + m.length ≤ 9223372036854775807) (w : World) : (binOp .add 9 (.string (strB l)) (.string (strB m))).run Tryz.prog w = .ok (.string (strB (l ++ m))) w := by
  rw [add_strs _ _ (by rw [strB_len, strB_len]; exact h), strB_app]
theorem strB_take (l : List Nat) (j : Nat) : (strB l).extract 0 j = strB (l.take j) := by
  apply ByteArray.ext
  simp [strB, strOfNums, List.map_take]
/-- 's[:j]' of a string of bytes, its run. -/
theorem ss_run {o : Oper} {w : World} {ρ : Operand → Value} {x y : Operand} (ho : o.op = .slice 9 x none (some y) none) {l : List Nat} {j : Nat} {J : Int} {k : IntKind}
    (hx : ρ x = .string (strB l)) (hy : ρ y = .int k J) (hJ : J = (j : Int)) (hj : j ≤ l.length) : (execOp ρ o).run Tryz.prog w = .ok (.value (.string (strB (l.take j)))) w := by
  subst hJ
  have h2 : (j : Int) ≤ ((strB l).size : Int) := by rw [strB_len]; omega
  unfold execOp
  simp only [ho, hx, hy, Option.map_some, Option.map_none, Sem.run_bind, run_sliceAt_string w 9 _ _ _ _ Tryz.underlying9, run_slice_string_h w 9 (strB l) Tryz.underlying9 k (j : Int) (by omega) h2, Result.andThen_ok, Sem.run_pure, Int.toNat_natCast]
  rw [strB_take]
theorem ss_h {ops : Array Oper} {rest : List Oper} {o : Oper} {a : Act} {w : World} {Q : Exit → Act → World → Prop} (hw : Region.wanted o (yielded ops a.tmps) = true) {x y : Operand} (ho : o.op = .slice 9 x none (some y) none) {l : List Nat} (j : Nat) {J : Int} {k : IntKind}
    (hx : a.eval x = .string (strB l)) (hy : a.eval y = .int k J) (hJ : J = (j : Int)) (hj : j ≤ l.length)
    (h : wpList Tryz.prog ops Q rest (a.put o.dst (.string (strB (l.take j)))) w) : wpList Tryz.prog ops Q (o :: rest) a w :=
  valS hw _ (ss_run ho hx hy hJ hj) h
end Go.Proofs.YthmolbcnbcajdaaGreat
namespace Go.Proofs.YthmolbcnbcajdaaGreat
set_option maxRecDepth 100000
open Go.RowKit
set_option linter.unusedVariables false

def rcs (S : TS) (ar : Bool) (lf un : Int) : Array Value := #[.string (strB (S.l.take S.sure)), .string (strB (S.l.drop S.sure)), .int .i64 ((S.steps : Nat) : Int), .bool ar, .bool S.rs, .int .i64 lf, .int .i64 un, .bool S.down]
structure OctR (W : World) (r : Nat) (S : TS) (ar : Bool) (lf un : Int) : Prop where
  c0 : W.cell? ⟨r, 0, none⟩ = some (.string (strB (S.l.take S.sure)))
  c1 : W.cell? ⟨r, 1, none⟩ = some (.string (strB (S.l.drop S.sure)))
  c2 : W.cell? ⟨r, 2, none⟩ = some (.int .i64 ((S.steps : Nat) : Int))
  c3 : W.cell? ⟨r, 3, none⟩ = some (.bool ar)
  c4 : W.cell? ⟨r, 4, none⟩ = some (.bool S.rs)
  c5 : W.cell? ⟨r, 5, none⟩ = some (.int .i64 lf)
  c6 : W.cell? ⟨r, 6, none⟩ = some (.int .i64 un)
  c7 : W.cell? ⟨r, 7, none⟩ = some (.bool S.down)
end Go.Proofs.YthmolbcnbcajdaaGreat
namespace Go.Proofs.YthmolbcnbcajdaaGreat
set_option maxRecDepth 100000
open Go.RowKit
set_option linter.unusedVariables false

theorem chg_drewN (b : Nat) (w : World) (n : Nat) : Chg b w (w.drewN n) := ⟨rfl, rfl, rfl, rfl, fun _ _ => rfl⟩
theorem chg_drew (b : Nat) (w : World) : Chg b w w.drew := ⟨rfl, rfl, rfl, rfl, fun _ _ => rfl⟩
theorem strB_nil : (⟨#[]⟩ : ByteArray) = strB [] := rfl
theorem rcs_eq (S S' : TS) (ar : Bool) (lf un : Int) (x y : List Nat) (hx : S'.l.take S'.sure = x) (hy : S'.l.drop S'.sure = y) (h2 : S'.steps = S.steps) (h4 : S'.rs = S.rs) (h7 : S'.down = S.down) :
    ((rcs S ar lf un).setIfInBounds 0 (.string (strB x))).setIfInBounds 1 (.string (strB y)) = rcs S' ar lf un := by
  unfold rcs; rw [hx, hy, h2, h4, h7]; rfl
theorem rcs_eq1 (S S' : TS) (ar : Bool) (lf un : Int) (y : List Nat) (hx : S'.l.take S'.sure = S.l.take S.sure) (hy : S'.l.drop S'.sure = y) (h2 : S'.steps = S.steps) (h4 : S'.rs = S.rs) (h7 : S'.down = S.down) :
    (rcs S ar lf un).setIfInBounds 1 (.string (strB y)) = rcs S' ar lf un := by
  unfold rcs; rw [hx, hy, h2, h4, h7]; rfl
end Go.Proofs.YthmolbcnbcajdaaGreat
namespace Go.Proofs.YthmolbcnbcajdaaGreat
set_option maxRecDepth 100000
open Go.RowKit
set_option linter.unusedVariables false

theorem crs_eq (S : TS) (ar : Bool) (lf un : Int) (j : Nat) (hj : j ≤ S.l.length) :
    (((((rcs S ar lf un).setIfInBounds 0 (.string (strB (S.l.take j)))).setIfInBounds 1 (.string ⟨#[]⟩)).setIfInBounds 3 (.bool false)).setIfInBounds 4 (.bool false)).setIfInBounds 7 (.bool false) = rcs ⟨S.l.take j, j, S.steps, false, 0, false, 0, false⟩ false lf un := by
  have h1 : (S.l.take j).take j = S.l.take j := by rw [List.take_take, Nat.min_self]
  have h2 : (S.l.take j).drop j = [] := List.drop_eq_nil_of_le (by rw [List.length_take]; omega)
  unfold rcs
  dsimp only
  rw [h1, h2]
  rfl
end Go.Proofs.YthmolbcnbcajdaaGreat
namespace Go.Proofs.YthmolbcnbcajdaaGreat
set_option maxRecDepth 100000
open Go.RowKit
set_option linter.unusedVariables false

/-- Nothing but the tape's own memory and block r has turned. -/
structure Mw (b r : Nat) (w w' : World) (v v' : Value) : Prop where
  os : w'.os = w.os
  tape : w'.tape = w.tape
  output : w'.output = w.output
  size : w.heap.size ≤ w'.heap.size
  other : ∀ k, k < w.heap.size → k ≠ b → k ≠ r → v.ownBlock ≠ some k → w'.heap[k]? = w.heap[k]?
  next : ∀ x, v'.ownBlock = some x → v.ownBlock = some x ∨ w.heap.size ≤ x
theorem Mv.mw {b : Nat} {w w' : World} {v v' : Value} (h : Mv b w w' v v') (r : Nat) : Mw b r w w' v v' := ⟨h.os, h.tape, h.output, h.size, fun k hk hb _ hv => h.other k hk hb hv, h.next⟩
theorem Chg.mw {r : Nat} {w w' : World} (h : Chg r w w') (b : Nat) (v : Value) : Mw b r w w' v v := ⟨h.os, h.tape, h.output, Nat.le_of_eq h.size.symm, fun k _ _ hr _ => h.other k hr, fun _ h => .inl h⟩
theorem Mw.trans {b r : Nat} {w w' w'' : World} {v v' v'' : Value} (h : Mw b r w w' v v') (k : Mw b r w' w'' v' v'') : Mw b r w w'' v v'' :=
  ⟨k.os.trans h.os, k.tape.trans h.tape, k.output.trans h.output, Nat.le_trans h.size k.size,
   fun i hi hb hr hv => (k.other i (Nat.lt_of_lt_of_le hi h.size) hb hr (fun e => by
     rcases h.next i e with e | e
     · exact hv e
     · omega)).trans (h.other i hi hb hr hv),
   fun x hx => by
     rcases k.next x hx with e | e
     · exact h.next x e
     · exact .inr (Nat.le_trans h.size e)⟩
theorem Mw.below {A w w' : World} {b r : Nat} {v v' : Value} {S : TS} (h : Mw b r w w' v v') (hT : Tp w A.heap.size b v S) (hr : A.heap.size ≤ r) : Below A.heap.size w w' :=
  ⟨h.os, h.tape, h.output, h.size, fun k hk => h.other k (Nat.lt_trans hk hT.lt) (by have := hT.ge; omega) (by omega) (fun e => by have := (hT.own.lt k e).1; omega)⟩
theorem Tp.chgO {W W' : World} {base b r : Nat} {v : Value} {S : TS} (h : Tp W base b v S) (hc : Chg r W W') (hb : b ≠ r) (ho : v.ownBlock ≠ some r) : Tp W' base b v S :=
  ⟨h.ge, h.blk.chg hc hb, own_chgT h.own hc ho, h.sure, h.max, h.bo, h.br⟩
end Go.Proofs.YthmolbcnbcajdaaGreat
