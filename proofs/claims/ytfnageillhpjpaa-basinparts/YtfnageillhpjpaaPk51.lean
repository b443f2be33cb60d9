/-
  Single things built: places, operations, entries.
  The document's basin: what it took, as tokens; Ids.
  Plain mathematics: a stream that is fed in whatever parts (P16.2).
-/
import Derived.Test.YtfnageillhpjpaaPk47
import Derived.Test.YtfnageillhpjpaaPk50
import Derived.Test.YtfnageillhpjpaaPk40
import Derived.Test.YtfnageillhpjpaaPk46
import Derived.Test.YtfnageillhpjpaaPk49
namespace Go.Proofs.Ytfnageillhpjpaa
open Go.RowKit Go.Maps
set_option linter.unusedVariables false
set_option maxRecDepth 100000

theorem ne00r (w : World) : (binOp .neq 32 .nilIface .nilIface).run Try.prog w = .ok (.bool false) w := by kernel_rfl
section
variable {α : Type} {E : En α}
theorem eo_single {e : TypeId} {W : World} {g : Nat} {x : α} (h : Blk W g (E.f x).toArray e) : EO E e W g (.slice (some ⟨g, 0, none⟩) 1 1) [x] := eo_of (n := 1) (by rw [E.fl_one1]; exact own_blkE h (Nat.le_refl _) (by rw [E.len]; omega) (by unfold maxLen; omega))
/-- One thing built as a slice. -/
theorem bsEW {o : Oper} {a : Act} {w : World} {K : Act → World → Prop} {Q : Exit → Act → World → Prop} (d : Option Tmp) (hd : o.dst = d) {t e : TypeId} {parts : Array (Nat × Operand)} (ho : o.op = .buildSlice t 1 parts) (x : α) {vs : Array (Nat × Value)} (hl : parts.map (fun (i, x) => (i, a.eval x)) = vs)
    (hrun : ∀ w : World, (Instr.buildSlice t 1 vs).run Try.prog w = .ok (.slice (some ⟨w.heap.size, 0, none⟩) 1 1) (w.alloc (.cells (E.f x).toArray e)))
    (h : ∀ W', EO E e W' w.heap.size (.slice (some ⟨w.heap.size, 0, none⟩) 1 1) [x] → Below w.heap.size w W' → K (a.put d (.slice (some ⟨w.heap.size, 0, none⟩) 1 1)) W') : o.wp Try.prog a w K Q := by
  subst hd
  unfold Oper.wp execOp
  simp only [ho, Sem.run_bind, hl, hrun, Result.andThen_ok]
  exact h _ (eo_single (Blk.new _ _ _)) ((Below.refl _ _).alloc (Nat.le_refl _) _)
end
theorem bs_pl1 (p : Int × Int) (w : World) : (Instr.buildSlice 36 1 #[(0, .agg #[.int .i64 p.1, .int .i64 p.2])]).run Try.prog w = .ok (.slice (some ⟨w.heap.size, 0, none⟩) 1 1) (w.alloc (.cells (E2.f p).toArray 38)) := bapl1 p.1 p.2 w
theorem bs_op1 (o : Op5) (w : World) : (Instr.buildSlice 22 1 #[(0, .agg #[.int .i64 o.s, .int .i64 o.k, .int .i64 o.t, .int .i64 o.y, .int .i64 o.v])]).run Try.prog w = .ok (.slice (some ⟨w.heap.size, 0, none⟩) 1 1) (w.alloc (.cells (E5.f o).toArray 27)) := by kernel_rfl
theorem stay_eo {α : Type} {E : En α} {K : Bkk} {e : TypeId} {w : World} {g B n c : Nat} {l : List α} (h : EO E e w B (.slice (some ⟨g, 0, none⟩) n c) l) (hx : ∀ k, bkB K k → k < B) : Stay E K w (.slice (some ⟨g, 0, none⟩) n c) l :=
  stay_young h.er (fun k hk => Nat.lt_of_lt_of_le (hx k hk) (World.ownsRow.lt h g rfl).1)
/-- An entry's block. -/
theorem EE_AG (x : Ent) : entA x = AG 76 ek (entF x) := by
  apply Array.ext'
  exact entA_AG x
theorem er_empty {α : Type} (E : En α) (W : World) (cap : Nat) (q : Option Addr) (h : cap ≤ 9223372036854775807) : ER E W (.slice q 0 cap) [] := ⟨q, cap, 0, 0, rfl, Nat.zero_le _, h, fun h => absurd h (by simp), fun j u hu => by simp [En.fl] at hu⟩
theorem stay_eo2 {α : Type} {E : En α} {K : Bkk} {e : TypeId} {w : World} {B : Nat} {v : Value} {l : List α} (h : EO E e w B v l) (hx : ∀ k, bkB K k → k < B) : Stay E K w v l := by
  by_cases h0 : 0 < l.length
  · obtain ⟨g, cap, rfl⟩ := EO.at0 h h0
    exact stay_eo h hx
  · have hl : l = [] := List.length_eq_zero_iff.1 (by omega)
    subst hl
    obtain ⟨q, cap, g, off, rfl, h2, h3, h4, h5⟩ := h.er
    exact fun V _ => er_empty E V cap q h3
theorem bs_ent0 (w : World) : (Instr.buildSlice 62 0 #[]).run Try.prog w = .ok (.slice (some ⟨w.heap.size, 0, none⟩) 0 0) (w.alloc (.cells #[] 90)) := by kernel_rfl
theorem bs_ea1 (e : Nat → Int) (w : World) : (Instr.buildSlice 62 1 #[(0, .agg (EA e))]).run Try.prog w = .ok (.slice (some ⟨w.heap.size, 0, none⟩) 1 1) (w.alloc (.cells (EA e) 90)) := by kernel_rfl
theorem bs_ent1 (x : Ent) (w : World) : (Instr.buildSlice 62 1 #[(0, .agg (entA x))]).run Try.prog w = .ok (.slice (some ⟨w.heap.size, 0, none⟩) 1 1) (w.alloc (.cells (EE.f x).toArray 90)) := by
  have h : (EE.f x).toArray = entA x := by show (entA x).toList.toArray = _; simp
  rw [h, EE_AG]
  exact bs_ea1 _ w
section
variable {ops : Array Oper} {rest : List Oper} {o : Oper} {a : Act} {w : World} {Q : Exit → Act → World → Prop}
/-- An entry out of a row of entries. -/
theorem ld_EE (hgd : o.guard = none) {x : Operand} (ho : o.op = .load 90 x) {b q : Nat} {c : Ent} (hr : w.rangeAt b q (entA c).toList) (hx : a.eval x = .pointer (some ⟨b, q, none⟩))
    (h : wpList Try.prog ops Q rest (a.put o.dst (.agg (entA c))) w) : wpList Try.prog ops Q (o :: rest) a w := by
  rw [EE_AG] at hr h
  exact ld_ent hgd ho hr hx h
theorem st_EE (hgd : o.guard = none) {x y : Operand} (ho : o.op = .store 90 x y) {b : Nat} {c : Ent} {d : Nat → Int} {t : TypeId} (hB : Blk w b (EA d) t) (hx : a.eval x = .pointer (some ⟨b, 0, none⟩)) (hy : a.eval y = .agg (entA c))
    (h : ∀ W', Blk W' b (entA c) t → Chg b w W' → wpList Try.prog ops Q rest (a.put o.dst undef) W') : wpList Try.prog ops Q (o :: rest) a w := by
  rw [EE_AG] at hy h
  exact st_ent hgd ho hB hx hy h
theorem bs_EE (hw : Region.wanted o (yielded ops a.tmps) = true) {parts : Array (Nat × Operand)} (ho : o.op = .buildSlice 62 1 parts) (e : Ent) (hl : parts.map (fun (i, x) => (i, a.eval x)) = #[(0, .agg (entA e))])
    (h : ∀ W', EO EE 90 W' w.heap.size (.slice (some ⟨w.heap.size, 0, none⟩) 1 1) [e] → Below w.heap.size w W' → wpList Try.prog ops Q rest (a.put o.dst (.slice (some ⟨w.heap.size, 0, none⟩) 1 1)) W') : wpList Try.prog ops Q (o :: rest) a w := by
  unfold wpList
  rw [if_pos hw]
  left
  unfold Oper.wp execOp
  simp only [ho, Sem.run_bind, hl, bs_ent1, Result.andThen_ok]
  exact h _ (eo_single (Blk.new _ _ _)) ((Below.refl _ _).alloc (Nat.le_refl _) _)
end
theorem er_range {W : World} {n cap : Nat} {q : Option Addr} {l : List Ent} (h : ER EE W (.slice q n cap) l) (hn : 0 < n) : ∃ g off, q = some ⟨g, off, none⟩ ∧ g < W.heap.size ∧ ∀ j x, l[j]? = some x → W.rangeAt g (off + j * 76) (entA x).toList := by
  obtain ⟨q', cap', g, off, e, h2, h3, h4, h5⟩ := h.at
  injection e with e1 e2 e3
  subst e1
  obtain ⟨e4, e5⟩ := h4 (by omega)
  exact ⟨g, off, e4, e5, fun j x hx i u hu => h5 j x hx i u hu⟩
end Go.Proofs.Ytfnageillhpjpaa
namespace Go.Proofs.Ytfnageillhpjpaa
open Go.RowKit
set_option linter.unusedVariables false
set_option maxRecDepth 100000

/-- The names of what was taken, each once. -/
def idsT (T : List Tok) : List Kyy := T.foldl (fun out x => addK out x.1) []
theorem idsT_snoc (T : List Tok) (x : Tok) : idsT (T ++ [x]) = addK (idsT T) x.1 := by unfold idsT; rw [List.foldl_append]; rfl
theorem idsT_take {T : List Tok} {k : Nat} {x : Tok} (h : T[k]? = some x) : idsT (T.take (k + 1)) = addK (idsT (T.take k)) x.1 := by
  rw [List.take_add_one, h]
  exact idsT_snoc _ _
theorem idsT_len (T : List Tok) : (idsT T).length ≤ T.length := by
  have : ∀ n, n ≤ T.length → (idsT (T.take n)).length ≤ n := by
    intro n
    induction n with
    | zero => intro _; simp [idsT]
    | succ n ih =>
      intro h
      have hx := List.getElem?_eq_getElem (l := T) (i := n) (by omega)
      rw [idsT_take hx]
      have h1 := ih (by omega)
      have h2 : (addK (idsT (T.take n)) T[n].1).length ≤ (idsT (T.take n)).length + 1 := by
        unfold addK
        split
        · omega
        · simp
      omega
  have h := this T.length (Nat.le_refl _)
  rwa [List.take_length] at h
theorem mem_idsT {T : List Tok} {k : Kyy} : k ∈ idsT T ↔ ∃ x ∈ T, x.1 = k := by
  have : ∀ n, n ≤ T.length → (k ∈ idsT (T.take n) ↔ ∃ x ∈ T.take n, x.1 = k) := by
    intro n
    induction n with
    | zero => intro _; simp [idsT]
    | succ n ih =>
      intro h
      have hx := List.getElem?_eq_getElem (l := T) (i := n) (by omega)
      rw [idsT_take hx, mem_addK, ih (by omega), List.take_add_one, hx]
      constructor
      · rintro (⟨y, hy, e⟩ | e)
        · exact ⟨y, List.mem_append_left _ hy, e⟩
        · exact ⟨T[n], List.mem_append_right _ (by simp), e.symm⟩
      · rintro ⟨y, hy, e⟩
        rcases List.mem_append.1 hy with hy | hy
        · exact .inl ⟨y, hy, e⟩
        · simp at hy; subst hy; exact .inr e.symm
  have h := this T.length (Nat.le_refl _)
  rwa [List.take_length] at h
theorem idsT_nodup (T : List Tok) : (idsT T).Nodup := by
  have : ∀ n, n ≤ T.length → (idsT (T.take n)).Nodup := by
    intro n
    induction n with
    | zero => intro _; simp [idsT]
    | succ n ih =>
      intro h
      have hx := List.getElem?_eq_getElem (l := T) (i := n) (by omega)
      rw [idsT_take hx]
      unfold addK
      split
      · exact ih (by omega)
      · rename_i hn
        rw [List.nodup_append]
        exact ⟨ih (by omega), by simp, fun a ha b hb => by simp at hb; subst hb; exact fun e => hn (e ▸ ha)⟩
  have h := this T.length (Nat.le_refl _)
  rwa [List.take_length] at h

/-- What was taken, as it lies. -/
def tkA (x : Tok) : Array Value := #[.int .i64 x.1.1, .int .i64 x.1.2.1, .int .i64 x.1.2.2, .int .i64 x.2.1, .int .i64 x.2.2.s, .int .i64 x.2.2.k, .int .i64 x.2.2.t, .int .i64 x.2.2.y, .int .i64 x.2.2.v]
def E9 : En Tok := ⟨9, fun x => (tkA x).toList, fun _ => rfl, fun x u hu => by simp [tkA] at hu; rcases hu with rfl | rfl | rfl | rfl | rfl | rfl | rfl | rfl | rfl <;> rfl, by omega⟩
theorem kyInfo16 : (Try.prog.info? 47).map (fun i => (i.zero, i.size, i.bytes)) = some (some (.agg #[.int .i64 0, .int .i64 0, .int .i64 0]), 3, 24) := by kernel_rfl
theorem bs_id1 (k : Kyy) (w : World) : (Instr.buildSlice 44 1 #[(0, .agg #[.int .i64 k.1, .int .i64 k.2.1, .int .i64 k.2.2])]).run Try.prog w = .ok (.slice (some ⟨w.heap.size, 0, none⟩) 1 1) (w.alloc (.cells (E3k.f k).toArray 47)) := by kernel_rfl
theorem kyB (a1 a2 a3 b1 b2 b3 : Int) : decide ((a1, a2, a3) = ((b1, b2, b3) : Kyy)) = (decide (a1 = b1) && (decide (a2 = b2) && decide (a3 = b3))) := by
  rw [Bool.eq_iff_iff]
  simp
theorem eqKy (a b : Kyy) (w : World) : (binOp .eql 47 (.agg #[.int .i64 a.1, .int .i64 a.2.1, .int .i64 a.2.2]) (.agg #[.int .i64 b.1, .int .i64 b.2.1, .int .i64 b.2.2])).run Try.prog w = .ok (.bool (decide (a = b))) w := by
  obtain ⟨a1, a2, a3⟩ := a
  obtain ⟨b1, b2, b3⟩ := b
  rw [kyB]
  by_cases h1 : a1 = b1
  · by_cases h2 : a2 = b2
    · by_cases h3 : a3 = b3
      · simp [go_sem, h1, h2, h3]
      · simp [go_sem, h1, h2, h3]
    · simp [go_sem, h1, h2]
  · simp [go_sem, h1]
theorem eqo_ky {o : Oper} {ρ : Operand → Value} {x y : Operand} {t' : TypeId} {a b : Kyy} (ho : o.op = .binOp .eql 47 x y t') (hx : ρ x = .agg #[.int .i64 a.1, .int .i64 a.2.1, .int .i64 a.2.2]) (hy : ρ y = .agg #[.int .i64 b.1, .int .i64 b.2.1, .int .i64 b.2.2]) (w : World) :
    (execOp ρ o).run Try.prog w = .ok (.value (.bool (decide (a = b)))) w := by
  unfold execOp
  have eg : ∀ (xs ys : Array Value), (eqGuard .eql 47 x y (.agg xs) (.agg ys)).run Try.prog w = .ok () w := fun xs ys => run_eqGuard_agg w .eql 47 x y xs ys (by kernel_rfl)
  simp only [ho, hx, hy, Sem.run_bind, eg, eqKy, Result.andThen_ok, Sem.run_pure]

end Go.Proofs.Ytfnageillhpjpaa
namespace Go.Proofs.Ytfnageillhpjpaa
open Go.RowKit
set_option linter.unusedVariables false
set_option maxRecDepth 100000

def pOp (k : Nat) (o : Op5) : Op5 := ⟨2 * (k : Int) + 1, 1 + o.k % 2, o.t, o.y, o.v⟩
def pO (ops : List Op5) : List Op5 := ops.zipIdx.map fun x => pOp x.2 x.1
theorem pO_len (ops : List Op5) : (pO ops).length = ops.length := by unfold pO; rw [List.length_map, List.length_zipIdx]
theorem pO_at (ops : List Op5) (k : Nat) : (pO ops)[k]? = ops[k]?.map (pOp k) := by
  unfold pO
  rw [List.getElem?_map, List.getElem?_zipIdx, Option.map_map, Nat.zero_add]
  rfl
theorem pO_snoc {ops : List Op5} {k : Nat} {o : Op5} (h : ops[k]? = some o) : pO (ops.take (k + 1)) = pO (ops.take k) ++ [pOp k o] := by
  have hk := (List.getElem?_eq_some_iff.1 h).1
  unfold pO
  rw [List.take_add_one, h, Option.toList_some, List.zipIdx_append, List.map_append, List.length_take, Nat.min_eq_left (by omega), Nat.zero_add]
  rfl
theorem pOp_k (k : Nat) (o : Op5) : (pOp k o).k = 1 ∨ (pOp k o).k = 2 := by
  show 1 + o.k % 2 = 1 ∨ 1 + o.k % 2 = 2
  omega
theorem pO_form {ops : List Op5} {k : Nat} {o : Op5} (h : (pO ops)[k]? = some o) : o.s = 2 * (k : Int) + 1 ∧ (o.k = 1 ∨ o.k = 2) := by
  rw [pO_at] at h
  cases hx : ops[k]? with
  | none => rw [hx] at h; cases h
  | some x => rw [hx] at h; simp at h; subst h; exact ⟨rfl, pOp_k k x⟩
theorem pOp_fit {k : Nat} {o : Op5} (hf : Fit5 o) (hk : k ≤ 150) : Fit5 (pOp k o) :=
  ⟨by unfold J64 pOp; dsimp only; omega, by unfold J64 pOp; dsimp only; omega, hf.t, hf.y, hf.v⟩
theorem pO_fit {ops : List Op5} (hf : ∀ o ∈ ops, Fit5 o) (hn : ops.length ≤ 150) : ∀ o ∈ pO ops, Fit5 o := by
  intro o ho
  obtain ⟨k, hk, e⟩ := List.getElem_of_mem ho
  have h := List.getElem?_eq_some_iff.2 ⟨hk, e⟩
  rw [pO_len] at hk
  rw [pO_at] at h
  cases hx : ops[k]? with
  | none => rw [hx] at h; cases h
  | some x => rw [hx] at h; simp at h; subst h; exact pOp_fit (hf x (List.mem_of_getElem? hx)) (by omega)
def smp (o : Op5) : Tok := ((0, 0, 0), 1, o)
def pS (l : List Op5) : List Tok := (l.filter fun o => decide (o.k = 1)).map smp
theorem pS_snoc (l : List Op5) (o : Op5) : pS (l ++ [o]) = pS l ++ (if o.k = 1 then [smp o] else []) := by
  unfold pS
  rw [List.filter_append, List.map_append]
  by_cases c : o.k = 1 <;> simp [c]
theorem pS_len (l : List Op5) : (pS l).length ≤ l.length := by unfold pS; rw [List.length_map]; exact List.length_filter_le _ _
theorem pS_mem {l : List Op5} {x : Tok} (h : x ∈ pS l) : ∃ o ∈ l, x = smp o := by
  unfold pS at h
  obtain ⟨o, ho, e⟩ := List.mem_map.1 h
  exact ⟨o, (List.mem_filter.1 ho).1, e.symm⟩
def tS (sh : Int) (res : List Int) (l : List Tok) : List Tok := l.flatMap fun x => tokL x.2.1 x.2.2 (idL x.2.2.t x.2.2.y sh res)
theorem tS_takQ {sh : Int} {res : List Int} (l : List Op5) (h : ∀ o ∈ l, o.k = 1 ∨ o.k = 2) : tS sh res (pS l) = takQ 1 sh res l := by
  unfold tS pS takQ
  rw [List.flatMap_map]
  have : l.filter (fun o => decide (o.k = 1)) = l.filter (fun o => decide (o.k ≠ 2)) := List.filter_congr fun o ho => by have := h o ho; rw [decide_eq_decide]; omega
  rw [this]
  rfl
theorem tS_take {sh : Int} {res : List Int} {l : List Tok} {j : Nat} {x : Tok} (h : l[j]? = some x) : tS sh res (l.take (j + 1)) = tS sh res (l.take j) ++ tokL x.2.1 x.2.2 (idL x.2.2.t x.2.2.y sh res) := by
  unfold tS
  rw [List.take_add_one, h, Option.toList_some, List.flatMap_append]
  simp
theorem tS_len (sh : Int) (res : List Int) : ∀ l : List Tok, (tS sh res l).length ≤ l.length * res.length
  | [] => by simp [tS]
  | x :: l => by
    have ih := tS_len sh res l
    unfold tS at ih ⊢
    rw [List.flatMap_cons, List.length_append, List.length_cons, Nat.add_mul, Nat.one_mul, show (tokL x.2.1 x.2.2 (idL x.2.2.t x.2.2.y sh res)).length = res.length by unfold tokL; rw [List.length_map, idL_len]]
    omega
/-- The number that comes next. -/
def nxP (n : Nat) : Int := if n = 0 then 1 else 2 * (n : Int)
/-- How far a stream has been fed. -/
structure BpI (S : Bsn) (res : List Int) (T : List Tok) (n : Nat) : Prop where
  l : LstI S T
  k : StK (newBsn 2 res 2 1024) S
  nx : ∃ f, S.fl[1]? = some f ∧ f.nx = nxP n
theorem bp_start {res : List Int} (h : newOK ((2 : Nat) : Int) res 2 1024 = true) (hr : ∀ r ∈ res, r ≤ 9223372036854775807) : BpI (newBsn 2 res 2 1024) res [] 0 :=
  ⟨lst_new h hr, StK.refl _, ⟨newFl, rfl, rfl⟩⟩
theorem bp_feed {S : Bsn} {res : List Int} {ops : List Op5} {n tn : Nat} {cut : List (Int × Int)} (h : BpI S res (takQ 1 2 res ((pO ops).take n)) n) (hf : ∀ o ∈ ops, Fit5 o) (h150 : ops.length ≤ 150) (hr3 : res.length ≤ 3) (hn : n < tn) (hto : tn ≤ ops.length)
    (hcl : cut.length = 2 * res.length) (hc : ∀ p ∈ cut, p = lstP) :
    fdF S ((1 : Nat) : Int) (nxP n) (2 * (tn : Int) - 1) cut (((pO ops).take tn).drop n) ∧ tkE (fdR S 1 cut (((pO ops).take tn).drop n)) = 0 ∧ BpI (fdZ S 1 (2 * (tn : Int) - 1) cut (((pO ops).take tn).drop n)) res (takQ 1 2 res ((pO ops).take tn)) tn ∧ ∀ o ∈ ((pO ops).take tn).drop n, Fit5 o := by
  obtain ⟨hl, hk, f, hfl, hfx⟩ := h
  have hfit := pO_fit hf h150
  have hM : ∀ o ∈ ((pO ops).take tn).drop n, Fit5 o := fun o ho => hfit o (List.mem_of_mem_take (List.mem_of_mem_drop ho))
  have hat : ∀ j o, (((pO ops).take tn).drop n)[j]? = some o → n + j < tn ∧ o.s = 2 * ((n + j : Nat) : Int) + 1 ∧ (o.k = 1 ∨ o.k = 2) := fun j o ho => by
    rw [List.getElem?_drop] at ho
    have hlt : n + j < tn := by
      have := (List.getElem?_eq_some_iff.1 ho).1
      rw [List.length_take] at this
      omega
    rw [List.getElem?_take_of_lt hlt] at ho
    exact ⟨hlt, pO_form ho⟩
  have hsh : S.sh = 2 := hk.sh
  have hres : S.res = res := hk.res
  have hmo : S.mo = 1024 := hk.mo
  have hfl2 : S.fl.length = 2 := hk.fl
  have hba : S.ba.length = res.length * 2 := by rw [hk.ba]; show (List.replicate (res.length * 2) lstP).length = _; rw [List.length_replicate]
  have hcut : cut.length = S.ba.length := by rw [hcl, hba]; omega
  have hT := takQ_len 1 2 res ((pO ops).take n)
  have hTn : ((pO ops).take n).length ≤ n := by rw [List.length_take]; omega
  have hMl : (((pO ops).take tn).drop n).length = tn - n := by rw [List.length_drop, List.length_take, pO_len]; omega
  have e1 : ((pO ops).take n).length * res.length ≤ n * 3 := Nat.mul_le_mul hTn hr3
  have e2 : (tn - n) * res.length ≤ (tn - n) * 3 := Nat.mul_le_mul_left _ hr3
  obtain ⟨f1, f2, f3, f4⟩ := fd_lst hl (i := 1) (by unfold J64; omega) (la := 2 * (tn : Int) - 1) (cut := cut) (ops := ((pO ops).take tn).drop n) hcut hc hM (by rw [hres, hmo, hMl]; omega)
  refine ⟨⟨⟨by omega, by rw [hfl2]; omega⟩, hcut, ?_, fun o ho => ?_, ?_⟩, f1, ⟨?_, hk.trans f4, ?_⟩, hM⟩
  · unfold nxP wrap64
    split <;> omega
  · obtain ⟨j, hj, e⟩ := List.getElem_of_mem ho
    obtain ⟨h1, h2, h3⟩ := hat j o (List.getElem?_eq_some_iff.2 ⟨hj, e⟩)
    refine ⟨h3, ?_, ?_⟩
    · rw [h2]; unfold nxP; split <;> omega
    · rw [h2]; omega
  · rw [List.pairwise_iff_getElem]
    intro i j hi hj hij
    obtain ⟨-, h2, -⟩ := hat i _ (List.getElem?_eq_some_iff.2 ⟨hi, rfl⟩)
    obtain ⟨-, h3, -⟩ := hat j _ (List.getElem?_eq_some_iff.2 ⟨hj, rfl⟩)
    rw [h2, h3]
    omega
  · have e3 : takQ 1 2 res ((pO ops).take tn) = takQ 1 2 res ((pO ops).take n) ++ takQ 1 S.sh S.res (((pO ops).take tn).drop n) := by
      rw [hsh, hres, ← takQ_append]
      congr 1
      have : ((pO ops).take tn).take n = (pO ops).take n := by rw [List.take_take, Nat.min_eq_left (by omega)]
      rw [← this, List.take_append_drop]
    rw [e3]
    exact f3
  · rw [f2]
    have hS : (takB S 1 (((pO ops).take tn).drop n)).1.fl.length = 2 := by
      have := (nxt_same (takB S 1 (((pO ops).take tn).drop n)).1 1 (wrap64 (2 * (tn : Int) - 1 + 1))).2.2.2.2.2
      rw [← f2] at this
      rw [← this, f4.fl, hfl2]
    obtain ⟨g, hg⟩ : ∃ g, (takB S 1 (((pO ops).take tn).drop n)).1.fl[1]? = some g := ⟨_, List.getElem?_eq_getElem (by omega)⟩
    refine ⟨{ g with nx := wrap64 (2 * (tn : Int) - 1 + 1) }, ?_, ?_⟩
    · unfold nxtB
      dsimp only
      rw [hg]
      exact List.getElem?_set_self (by omega)
    · show wrap64 (2 * (tn : Int) - 1 + 1) = nxP tn
      unfold nxP wrap64
      rw [if_neg (by omega)]
      omega
theorem bp_len {S : Bsn} {res : List Int} {T : List Tok} {n : Nat} (h : BpI S res T n) : (idsT T).length = S.ks.length :=
  ((List.perm_ext_iff_of_nodup (idsT_nodup T) h.l.ok.nd).2 (fun k => by rw [mem_idsT, h.l.tk.ks])).length_eq
end Go.Proofs.Ytfnageillhpjpaa
