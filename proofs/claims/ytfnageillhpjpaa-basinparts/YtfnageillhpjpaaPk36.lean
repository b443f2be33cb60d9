/-
  The Hist that has some pairs: cell.histOf.
  The cell that numbers begin with: cell.Take.
  The document's numbers of a cell: estuaryref02.Nums.
-/
import Derived.Test.YtfnageillhpjpaaPk34
import Derived.Test.YtfnageillhpjpaaPk19
namespace Go.Proofs.Ytfnageillhpjpaa
set_option maxRecDepth 100000
open Go.RowKit
set_option linter.unusedVariables false

section
variable {ops : Array Oper} {rest : List Oper} {o : Oper} {a : Act} {w : World} {Q : Exit → Act → World → Prop}
theorem st_hist (hgd : o.guard = none) {x y : Operand} (ho : o.op = .store 52 x y) {b : Nat} {c d : Nat → Int} {t : TypeId} (hB : Blk w b (HA d) t) (hx : a.eval x = .pointer (some ⟨b, 0, none⟩)) (hy : a.eval y = .agg (HA c))
    (h : ∀ W', Blk W' b (HA c) t → Chg b w W' → wpList Try.prog ops Q rest (a.put o.dst undef) W') : wpList Try.prog ops Q (o :: rest) a w :=
  st_blk hgd ho hB hx hy (info_hist c) (by rw [HA_size, HA_size]) (HA_one c) h
theorem al_hist (hgd : o.guard = none) (ho : o.op = .alloc 52)
    (h : ∀ W', W' = w.alloc (.cells (HA zc) 52) → Blk W' w.heap.size (HA zc) 52 → Below w.heap.size w W' → wpList Try.prog ops Q rest (a.put o.dst (.pointer (some ⟨w.heap.size, 0, none⟩))) W') : wpList Try.prog ops Q (o :: rest) a w :=
  al_blk hgd ho (HA zc) (zero_hist w) h
theorem bd_hist (hw : Region.wanted o (yielded ops a.tmps) = true) (ho : o.op = .build 52 #[])
    (h : wpList Try.prog ops Q rest (a.put o.dst (.agg (HA zc))) w) : wpList Try.prog ops Q (o :: rest) a w :=
  val_step hw _ (bd_run ho (show Try.prog.built 52 [] = some (HA zc) from by kernel_rfl) (by simp) w) h
end
theorem Blk.setH {W : World} {b : Nat} {c : Nat → Int} {t : TypeId} (h : Blk W b (HA c) t) (i : Nat) (v : Int) (hi : i < 65) : Blk (W.setCell ⟨b, i, none⟩ (.int .i64 v)) b (HA (cup c i v)) t := by
  have := h.set i (.int .i64 v)
  rwa [HA_set c i v hi] at this
def histR (ps : List PV) : Value := match foldH ps with
  | some s => .tuple #[.agg (HA s.2), .bool true]
  | none => .tuple #[.agg (HA zc), .bool false]

end Go.Proofs.Ytfnageillhpjpaa
namespace Go.Proofs.Ytfnageillhpjpaa
set_option maxRecDepth 100000
open Go.RowKit
set_option linter.unusedVariables false

def noTake : Value := .tuple #[.agg (CA zc), .slice none 0 0, .bool false]
theorem slc_ints : Try.prog.underlying 23 = some (.slice (Try.prog.elem 23)) := by kernel_rfl
theorem siz_ints (w : World) : (sizeOf (Try.prog.elem 23)).run Try.prog w = .ok 1 w := by kernel_rfl

theorem irow_keep2 {W W' : World} {g off : Nat} {l : List Int} (h : IRow W g off l) (hg : g < W.heap.size) (hb : Below W.heap.size W W') : IRow W' g off l := irow_keep h (fun _ => hg) hb
/-- Behind the head. -/
theorem irow_behind {W : World} {g off o' : Nat} {l : List Int} (h : IRow W g off l) (ho : 10 < l.length → o' = off + 10) (hl : 10 ≤ l.length) : IRow W g o' (l.drop 10) := by
  by_cases c : 10 < l.length
  · rw [ho c]; exact irow_drop h 10
  · intro j x hx
    rw [List.drop_of_length_le (by omega)] at hx; simp at hx

theorem ldh_oper {o : Oper} {ρ : Operand → Value} {x : Operand} {b : Nat} {c : Nat → Int} {t : TypeId} {w : World} (ho : o.op = .load 52 x) (hx : ρ x = .pointer (some ⟨b, 0, none⟩)) (hB : Blk w b (HA c) t) :
    (execOp ρ o).run Try.prog w = .ok (.value (.agg (HA c))) w := by
  unfold execOp
  simp only [ho, hx, Instr.loadAt, Instr.sureAddr, Sem.run_bind, Sem.run_pure, Result.andThen_ok, run_loadVar_row w b t 52 (HA c) (0, 0) _ hB Try.underlying52 rfl (info_hist c)]
def takeC (x0 x1 x2 x3 x4 x5 x6 x7 x8 : Int) (h : Nat → Int) : Nat → Int := fun i => if i = 0 then x0 else if i = 1 then x1 else if i = 2 then x2 else if i = 3 then x3 else if i = 4 then x4 else if i = 5 then x5 else if i = 6 then x6 else if i = 7 then x7 else if i = 8 then x8 else h (i - 9)
theorem built_take (x0 x1 x2 x3 x4 x5 x6 x7 x8 : Int) (h : Nat → Int) : Try.prog.built 54 [(0, .int .i64 x0), (1, .agg #[.int .i64 x1, .int .u64 x2]), (2, .int .i64 x3), (3, .int .i64 x4), (4, .agg #[.int .i64 x5, .int .i64 x6, .int .i64 x7, .int .i64 x8]), (5, .agg (HA h))] =
    some (CA (takeC x0 x1 x2 x3 x4 x5 x6 x7 x8 h)) := by kernel_rfl
theorem own_chg2 {W W' : World} {base e size n b : Nat} {v : Value} {xs : List Value} {us : Array Value} {u : TypeId} (h : W.ownsRow base e size v n xs) (hB : Blk W b us u) (hc : Chg b W W') (hn : e ≠ u) : W'.ownsRow base e size v n xs := by
  refine ⟨h.1, ?_⟩
  rcases h.2 with h2 | ⟨g', cap', cur, e1, hb, hg, h4⟩
  · exact .inl h2
  · refine .inr ⟨g', cap', cur, e1, hb, Blk.chg hg hc ?_, h4⟩
    rintro rfl
    have f : W.heap[g']? = _ := hB
    rw [hg] at f
    cases f
    exact hn rfl
theorem i64_in (m : Nat) (h : m ≤ 9223372036854775807) : IntKind.i64.wrap (m : Int) = (m : Int) := by simp [IntKind.wrap, IntKind.signed, IntKind.bits]; omega
theorem u64_uw (x : Int) : IntKind.u64.wrap x = uw x := by simp [IntKind.wrap, IntKind.signed, IntKind.bits, uw]
theorem takeC_cell (l : List Int) (h : Nat → Int) : Eqv (takeC (l.getD 0 0) (l.getD 1 0) (IntKind.u64.wrap (l.getD 2 0)) (l.getD 3 0) (l.getD 4 0) (l.getD 5 0) (l.getD 6 0) (l.getD 7 0) (l.getD 8 0) h) (cellOf l h) := by
  intro i hi
  rw [u64_uw]
  unfold takeC cellOf
  match i with
  | 0 | 1 | 2 | 3 | 4 | 5 | 6 | 7 | 8 => rfl
  | n + 9 => rw [if_neg (by omega), if_neg (by omega), if_neg (by omega), if_neg (by omega), if_neg (by omega), if_neg (by omega), if_neg (by omega), if_neg (by omega), if_neg (by omega), if_neg (by omega)]

end Go.Proofs.Ytfnageillhpjpaa
namespace Go.Proofs.Ytfnageillhpjpaa
set_option maxRecDepth 100000
open Go.RowKit
set_option linter.unusedVariables false

theorem pp_two (h : Nat → Int) (k : Nat) : flatP (pp h (k + 1)) = if h k = 0 then flatP (pp h k) else flatP (pp h k) ++ [(k : Int), h k] := by
  simp only [pp]; split
  · rfl
  · rw [flatP_snoc]
end Go.Proofs.Ytfnageillhpjpaa
