/-
  Slices of strings: texts and same of estuarylaw07.
  Lists of bytes that the call itself makes: an empty one, one of one slice, append of lists.
  Lists of bytes that the law itself makes, at one operation: an empty one, one of one slice, make, append of lists.
-/
import Derived.Test.YtlhamckpgijjmaaPk39
import Derived.Test.YtlhamckpgijjmaaPk32
import Derived.Test.YtlhamckpgijjmaaPk05
namespace Go.Proofs.Ytlhamckpgijjmaa
open Go.RowKit
set_option linter.unusedVariables false
set_option maxRecDepth 100000

end Go.Proofs.Ytlhamckpgijjmaa
namespace Go.Proofs.Ytlhamckpgijjmaa
open Go.RowKit
set_option linter.unusedVariables false
set_option maxRecDepth 100000

theorem ls_own {W : World} {b n : Nat} {v : Value} {vs : List Value} {ls : List (List Nat)} (ho : W.ownsRow b 59 1 v n vs) (hlen : vs.length = ls.length) (hE : ∀ (j : Nat) (x : Value) (l : List Nat), vs[j]? = some x → ls[j]? = some l → Sl W x l) : Ls W v vs ls := by
  obtain ⟨h1, q, g, cap, rfl, hp, hg, _, _, hc, hm, hr, _⟩ := own_open ho (by omega)
  rw [Nat.mul_one] at h1
  subst h1
  exact ⟨hlen, ⟨q, cap, rfl, hc, hm, fun h0 => ⟨g, 0, hp h0, hg h0, fun j x hx => by rw [Nat.zero_add]; exact hr j x hx⟩⟩, hE⟩
theorem ls_src {W : World} {v : Value} {vs : List Value} {ls : List (List Nat)} (h : Ls W v vs ls) : ∃ q cap, v = .slice q ls.length cap ∧ (q = none → ls.length = 0) ∧ (∀ ad, q = some ad → ∀ j u, vs[j]? = some u → W.cell? (ad.add j) = some u) ∧ ∀ u ∈ vs, u.oneCell' = true := by
  obtain ⟨q, cap, g, off, e, h1, h2, h3, h4, h5⟩ := h.open
  refine ⟨q, cap, e, fun hq => ?_, fun ad ha j u hu => ?_, fun u hu => ?_⟩
  · apply Classical.byContradiction
    intro h0
    have := h3 (by omega)
    rw [hq] at this
    cases this
  · have h0 : 0 < ls.length := by have := (List.getElem?_eq_some_iff.1 hu).1; rw [h.len] at this; omega
    have := h3 h0
    rw [ha] at this
    cases this
    rw [Addr.add_mid]
    exact h5 j u hu
  · obtain ⟨j, hj⟩ := List.getElem?_of_mem hu
    have hjl : j < ls.length := by have := (List.getElem?_eq_some_iff.1 hj).1; rwa [h.len] at this
    obtain ⟨a, b, c, rfl⟩ := (h.each j u _ hj (List.getElem?_eq_getElem hjl)).slice
    rfl
/-- append of a list of bytes onto an own one: its run. -/
theorem app_runL {w : World} (base : Nat) (ty : TypeId) {v vx : Value} {n k : Nat} {xs vs : List Value} {ls : List (List Nat)} (hown : w.ownsRow base 59 1 v n xs) (hsl : Ls w vx vs ls) (hm : ls.length = k) (h63 : n + k ≤ 5864062014805) (hA : base ≤ w.heap.size) :
    ∃ v' w', (Builtin.append_ #[65, 65] ty #[v, vx]).run Try.prog w = .ok v' w' ∧ w'.ownsRow base 59 1 v' (n + k) (xs ++ vs) ∧ w.grownBy w' v.ownBlock ∧ (v'.ownBlock = v.ownBlock ∨ v'.ownBlock = some w.heap.size) := by
  obtain ⟨i, hi, hz0, hz1, hz2⟩ := info_parts infoBytes
  subst hm
  obtain ⟨q, cap, rfl, hq, hsrc, hone⟩ := ls_src hsl
  cases q with
  | none =>
    have h0 := hq rfl
    have hv0 : vs = [] := List.eq_nil_of_length_eq_zero (by rw [hsl.len]; exact h0)
    subst hv0
    rw [h0]
    exact ⟨v, w, append_none (P := Try.prog) w base 65 ty 59 i 1 cap Try.underlying65 hi v n xs hown, by simpa using hown, ⟨rfl, rfl, rfl, Nat.le_refl _, fun _ _ _ => rfl⟩, .inl rfl⟩
  | some ad =>
    obtain ⟨v', w', hr, h2, h3, h4, h5⟩ := run_append_own_at (P := Try.prog) w base 65 ty 59 i _ 1 24 Try.underlying65 hi hz0 hz1 hz2 rfl (by omega) v n xs hown ad ls.length cap vs (by rw [Nat.mul_one]; exact hsl.len) (hsrc ad rfl) hone (by unfold maxLen; omega) (by omega) hA
    exact ⟨v', w', hr, h2, h3, h5⟩
theorem own_newL (w : World) (xs : List Value) (n : Nat) (hn : xs.length = n) (hm : n ≤ maxLen) : (w.alloc (.cells xs.toArray 59)).ownsRow w.heap.size 59 1 (.slice (some ⟨w.heap.size, 0, none⟩) n n) n xs := by
  refine ⟨by rw [hn, Nat.mul_one], .inr ⟨w.heap.size, n, xs.toArray, rfl, Nat.le_refl _, ?_, Nat.le_refl _, hm, ?_, ?_⟩⟩
  · show (w.heap.push _)[w.heap.size]? = _; simp
  · simp [hn]
  · rw [Nat.mul_one, ← hn]; simp
section
variable {o : Oper} {a : Act} {w : World} {K : Act → World → Prop} {Q : Exit → Act → World → Prop}
theorem lst0W (d : Option Tmp) (hd : o.dst = d) (ho : o.op = .buildSlice 65 0 #[]) (h : ∀ v' W', W'.ownsRow w.heap.size 59 1 v' 0 [] → Below w.heap.size w W' → K (a.put d v') W') : o.wp Try.prog a w K Q := by
  subst hd
  have hrun : (Instr.buildSlice 65 0 #[]).run Try.prog w = .ok (.slice (some ⟨w.heap.size, 0, none⟩) 0 0) (w.alloc (.cells #[] 59)) := by kernel_rfl
  unfold Oper.wp execOp
  simp only [ho, Sem.run_bind, List.map_toArray, List.map_nil, hrun, Result.andThen_ok]
  exact h _ _ (own_newL w [] 0 rfl (by decide)) ((Below.refl _ _).alloc (Nat.le_refl _) _)
theorem lst1W (d : Option Tmp) (hd : o.dst = d) {x : Operand} (ho : o.op = .buildSlice 65 1 #[(0, x)]) {q : Option Addr} {n c : Nat} (hx : a.eval x = .slice q n c) (h : ∀ v' W', W'.ownsRow w.heap.size 59 1 v' 1 [.slice q n c] → Below w.heap.size w W' → K (a.put d v') W') : o.wp Try.prog a w K Q := by
  subst hd
  have hrun := bsl1 q n c w
  unfold Oper.wp execOp
  simp only [ho, Sem.run_bind, List.map_toArray, List.map_cons, List.map_nil, hx, hrun, Result.andThen_ok]
  exact h _ _ (own_newL w [.slice q n c] 1 rfl (by decide)) ((Below.refl _ _).alloc (Nat.le_refl _) _)
theorem appLW (base : Nat) (d : Option Tmp) (hd : o.dst = d) {s x : Operand} (ho : o.op = .call { callee := .builtin .append, args := #[s, x], argTypes := #[65, 65] })
    {v vx : Value} {n k : Nat} {xs vs : List Value} {ls : List (List Nat)} (hs : a.eval s = v) (hown : w.ownsRow base 59 1 v n xs) (hx : a.eval x = vx) (hsl : Ls w vx vs ls) (hm : ls.length = k) (h63 : n + k ≤ 5864062014805) (hA : base ≤ w.heap.size)
    (h : ∀ v' w', w'.ownsRow base 59 1 v' (n + k) (xs ++ vs) → w.grownBy w' v.ownBlock → K (a.put d v') w') : o.wp Try.prog a w K Q := by
  subst hd
  obtain ⟨v', w', hr, h1, h2, h3⟩ := app_runL base o.type hown hsl hm h63 hA
  unfold Oper.wp execOp
  simp only [ho, resolve, invoke, builtin, Sem.run_bind, Sem.run_pure, Result.andThen_ok, List.map_toArray, List.map_cons, List.map_nil, hs, hx, hr]
  exact h v' w' h1 h2
end
end Go.Proofs.Ytlhamckpgijjmaa
namespace Go.Proofs.Ytlhamckpgijjmaa
open Go.RowKit
set_option linter.unusedVariables false
set_option maxRecDepth 100000

section
variable {o : Oper} {a : Act} {w : World} {K : Act → World → Prop} {Q : Exit → Act → World → Prop}
theorem mkbW (d : Option Tmp) (hd : o.dst = d) {x y : Operand} (ho : o.op = .makeSlice 59 x y) {n : Nat} {N : Int} (hx : a.eval x = .int .i64 N) (hy : a.eval y = .int .i64 N) (hN : N = (n : Int)) (hn : n ≤ 4000000)
    (h : ∀ v' W' Z, Z.length = n → Byt Z → Ow W' w.heap.size v' Z → Below w.heap.size w W' → K (a.put d v') W') : o.wp Try.prog a w K Q := by
  subst hN
  subst hd
  obtain ⟨i, hi, hz0, hz1, hz2⟩ := info_parts infoByte
  obtain ⟨w', hr, ho', hg⟩ := run_make_full (P := Try.prog) w w.heap.size 59 5 i _ 1 Try.underlying59 hi hz0 hz1 .i64 .i64 n (by rw [hz2]; omega) (by unfold maxLen; omega) (Nat.le_refl _)
  unfold Oper.wp execOp
  simp only [ho, Sem.run_bind, hx, hy, hr, Result.andThen_ok]
  refine h _ _ (List.replicate n 0) (by simp) (fun x hx => by simp at hx; omega) (ow_of (n := n) ?_) (below_grown (Below.refl _ _) hg)
  have e : bys (List.replicate n 0) = (madeCells (Value.cells (.int .u8 0)) (n * 1)).toList := by
    rw [Nat.mul_one, show Value.cells (.int .u8 0) = #[.int .u8 0] from rfl, toList_madeCells_one]
    simp [bys]
  rw [e]
  exact ho'
end
theorem mk_by {ops : Array Oper} {rest : List Oper} {o : Oper} {a : Act} {w : World} {Q : Exit → Act → World → Prop} (hw : Region.wanted o (yielded ops a.tmps) = true) {x y : Operand} (ho : o.op = .makeSlice 59 x y) {n : Nat} {N : Int} (hx : a.eval x = .int .i64 N) (hy : a.eval y = .int .i64 N) (hN : N = (n : Int)) (hn : n ≤ 4000000)
    (h : ∀ v' W' Z, Z.length = n → Byt Z → Ow W' w.heap.size v' Z → Below w.heap.size w W' → wpList Try.prog ops Q rest (a.put o.dst v') W') : wpList Try.prog ops Q (o :: rest) a w := by
  unfold wpList
  rw [if_pos hw]
  left
  exact mkbW o.dst rfl ho hx hy hN hn h
theorem drewrite_no (base b d nr ns : Nat) (v x : Value) (vs : List Value) (ls : List (List Nat)) (S : TS) (w : World) (hT : Tp w base b v S) (hst : S.steps < 4611686018427387000) (hD : Blk w d (dcs b nr ns) 103) (hx : Ls w x vs ls) (hb : ∀ l ∈ ls, Byt l) (hr14 : ∀ l ∈ ls, l.length ≤ 200000000000000) (hno : ∃ l ∈ ls, 16376 < l.length) :
    Calls Try.prog 46 #[tptr d, x] w fun e w' => e = .returned (Err 7) ∧ ∃ v', Tp w' base b v' S ∧ Mw b d w w' v v' ∧ Blk w' d (dcs b nr ns) 103 := by
  have hk : ¬ rwOK ls = true := fun h => by
    obtain ⟨l, hl, h2⟩ := hno
    have := ((rwOK_iff ls).1 h).1 l hl
    omega
  have h7 : rwN S ls = 7 := if_neg hk
  have hS : rwS S ls = S := if_neg hk
  refine (drewrite_any base b d nr ns v x vs ls S w hT hst hD hx hb hr14).mono ?_
  rw [h7, hS]
  rintro e w' ⟨rfl, v', h1, h2, -, h3⟩
  exact ⟨rfl, v', h1, h2, h3 (by decide)⟩
end Go.Proofs.Ytlhamckpgijjmaa
