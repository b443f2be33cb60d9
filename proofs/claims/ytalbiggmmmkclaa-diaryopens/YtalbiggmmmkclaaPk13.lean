/-
  The numbers that bytes consist of: frame.Nums.
  The document's numbers: estuaryref04.Number, Put, Take, Nums.
  Slices of strings: texts and same of estuarylaw07.
  Lists of bytes that the law itself makes, at one operation: an empty one, one of one slice, make, append of lists.
-/
import Derived.Test.YtalbiggmmmkclaaPk06
import Derived.Lib.Strings
import Derived.Test.YtalbiggmmmkclaaPk12
import Derived.Test.YtalbiggmmmkclaaPk08
namespace Go.Proofs.Ytalbiggmmmkclaa
open Go.RowKit
set_option linter.unusedVariables false

/-- The numbers that bytes consist of. -/
def nus (b : List Nat) : Option (List Int) := if b = [] then some [] else if h : nOK b = true then (nus (b.drop (nS b))).map (nV b :: ·) else none
termination_by b.length
decreasing_by
  have := nS_le h
  rw [List.length_drop]
  omega
theorem nus_nil : nus [] = some [] := by rw [nus, if_pos rfl]
theorem nOK_ne {b : List Nat} (h : nOK b = true) : b ≠ [] := by
  intro e
  subst e
  simp [nOK] at h
theorem nus_go {b : List Nat} (h : nOK b = true) : nus b = (nus (b.drop (nS b))).map (nV b :: ·) := by rw [nus, if_neg (nOK_ne h), dif_pos h]
theorem nus_no {b : List Nat} (h0 : b ≠ []) (h : nOK b = false) : nus b = none := by rw [nus, if_neg h0, dif_neg (by simp [h])]
theorem nus_put (ns : List Int) (h : In64 ns) : nus (numsB ns) = some ns := by
  induction ns with
  | nil => exact nus_nil
  | cons n r ih =>
    have h1 := h n (List.mem_cons_self ..)
    obtain ⟨a, b, c⟩ := num_put n (numsB r) h1.1 h1.2
    have e : numsB (n :: r) = numB n ++ numsB r := by simp [numsB]
    rw [e, nus_go a, b, c, List.drop_append_of_le_length (Nat.le_refl _), List.drop_length, List.nil_append, ih (fun x hx => h x (List.mem_cons_of_mem _ hx))]
    rfl
/-- At most so many. -/
def numsR (b : List Nat) (most : Int) : Option (List Int) := (nus b).bind fun r => if 0 < r.length ∧ most < (r.length : Int) then none else some r
theorem numsR_some {b : List Nat} {most : Int} {done : List Int} (h : nus b = some done) (hm : done = [] ∨ (done.length : Int) ≤ most) : numsR b most = some done := by
  rw [numsR, h, Option.bind_some, if_neg]
  rintro ⟨h1, h2⟩
  rcases hm with rfl | hm
  · simp at h1
  · omega
theorem numsR_none {b : List Nat} {most : Int} (h : nus b = none) : numsR b most = none := by rw [numsR, h, Option.bind_none]
theorem numsR_full {b rest : List Nat} {most : Int} {done : List Int} (h : nus b = (nus rest).map (done ++ ·)) (hok : nOK rest = true) (hm : most ≤ (done.length : Int)) : numsR b most = none := by
  rw [numsR, h, nus_go hok]
  cases nus (rest.drop (nS rest)) with
  | none => rfl
  | some r =>
    simp only [Option.map_some, Option.bind_some]
    rw [if_pos]
    simp
    omega
theorem nus_step {b rest : List Nat} {done : List Int} (h : nus b = (nus rest).map (done ++ ·)) (hok : nOK rest = true) : nus b = (nus (rest.drop (nS rest))).map ((done ++ [nV rest]) ++ ·) := by
  rw [h, nus_go hok]
  cases nus (rest.drop (nS rest)) with
  | none => rfl
  | some r => simp
/-- What Nums answers. -/
structure NP (W : World) (base : Nat) (r : Option (List Int)) (e : Ending) : Prop where
  some : ∀ x, r = some x → ∃ v', e = .returned (.tuple #[v', .nilIface]) ∧ Io W base v' x
  none : r = none → e = .returned (.tuple #[.slice none 0 0, Err 3])
/-- How long a slice is. -/
def slLen : Value → Nat
  | .slice _ n _ => n
  | _ => 0
theorem Sl.slLen {W : World} {v : Value} {l : List Nat} (h : Sl W v l) : slLen v = l.length := by
  obtain ⟨q, cap, rfl, _⟩ := h
  rfl
theorem Io.form {W : World} {base : Nat} {v : Value} {l : List Int} (h : Io W base v l) : ∃ q cap, v = .slice q l.length cap := by
  obtain ⟨q, cap, g, off, e, _⟩ := h.is
  exact ⟨q, cap, e⟩

section
variable {ops : Array Oper} {rest : List Oper} {o : Oper} {a : Act} {w : World} {Q : Exit → Act → World → Prop}
/-- 'b[i:]' of bytes that an earlier world holds. -/
theorem slb_l' (V : World) (hw : Region.wanted o (yielded ops a.tmps) = true) {x y : Operand} (ho : o.op = .slice 39 x (some y) none none) {q : Option Addr} {n cap : Nat} {I : Int} {ki : IntKind} {l : List Nat} (i : Nat)
    (hx : a.eval x = .slice q n cap) (hy : a.eval y = .int ki I) (hI : I = (i : Int)) (h1 : i ≤ n) (hsl : Sl V (.slice q n cap) l)
    (hK : ∀ q', Sl V (.slice q' (n - i) (cap - i)) (l.drop i) → wpList Try.prog ops Q rest (a.put o.dst (.slice q' (n - i) (cap - i))) w) : wpList Try.prog ops Q (o :: rest) a w := by
  have hc := hsl.len
  obtain ⟨q', e⟩ := sliced_form q i n cap
  have hr := slb_l_run (w := w) ho hx hy hI h1 hc.2.1
  rw [e] at hr
  refine valS hw _ hr (hK q' ?_)
  have := hsl.sub h1 (Nat.le_refl _) (Nat.le_refl _) hc.2.1 e.symm
  rwa [List.take_of_length_le (by rw [List.length_drop]; omega)] at this
end
end Go.Proofs.Ytalbiggmmmkclaa
namespace Go.Proofs.Ytalbiggmmmkclaa
open Go.RowKit
set_option linter.unusedVariables false

/-- Strings that differ, as the walk compares them. -/
theorem strB_ne {a b : List Nat} (h : strB a ≠ strB b) : ((strB a).toList == (strB b).toList) = false := by
  apply beq_false_of_ne
  intro e
  rw [Lib.toList_data, Lib.toList_data] at e
  exact h (ByteArray.ext (Array.toList_inj.1 e))
theorem leB_cons (j u : Nat) (hu : u < 256 ^ j) (h0 : u ≠ 0) : ∃ k, j = k + 1 ∧ leB j u = u % 256 :: leB k (u / 256) ∧ u / 256 < 256 ^ k := by
  cases j with
  | zero => exact absurd (by simpa using hu) h0
  | succ k =>
    refine ⟨k, rfl, ?_, by rw [Nat.pow_succ] at hu; omega⟩
    rw [leB, if_neg h0]
theorem leB_zero (j : Nat) : leB j 0 = [] := by cases j <;> simp [leB]
/-- How a number is written: what is done, and what is left. -/
structure Wr (u : Nat) (l : List Nat) (rem : Nat) : Prop where
  len : l.length ≤ 8
  lt : rem < 256 ^ (8 - l.length)
  all : l ++ leB (8 - l.length) rem = leB 8 u
theorem Wr.start {u : Nat} (hu : u < 18446744073709551616) : Wr u [] u := ⟨by simp, by simpa using hu, by simp⟩
theorem Wr.step {u : Nat} {l : List Nat} {rem : Nat} (h : Wr u l rem) (h0 : rem ≠ 0) : Wr u (l ++ [rem % 256]) (rem / 256) := by
  obtain ⟨k, e, e2, e3⟩ := leB_cons (8 - l.length) rem h.lt h0
  have hl : (l ++ [rem % 256]).length = l.length + 1 := by simp
  have hk : 8 - (l ++ [rem % 256]).length = k := by rw [hl]; omega
  refine ⟨by rw [hl]; omega, by rw [hk]; exact e3, ?_⟩
  rw [hk, ← h.all, e2, List.append_assoc]
  rfl
theorem Wr.end {u : Nat} {l : List Nat} (h : Wr u l 0) : l = leB 8 u := by
  have := h.all
  rwa [leB_zero, List.append_nil] at this
theorem val_drop (l : List Nat) (i x : Nat) (h : l[i]? = some x) : val (l.drop i) = x + 256 * val (l.drop (i + 1)) := by
  obtain ⟨hi, e⟩ := List.getElem?_eq_some_iff.1 h
  rw [List.drop_eq_getElem_cons hi, val, e]
theorem val_drop_lt (l : List Nat) (hb : Byt l) (h8 : l.length ≤ 8) (i : Nat) : val (l.drop i) < 18446744073709551616 := by
  have h := val_lt (l.drop i) (hb.drop i)
  have hl : (l.drop i).length ≤ 8 := by rw [List.length_drop]; omega
  have := Nat.pow_le_pow_right (n := 256) (by decide) hl
  omega
theorem unz_even (u : Nat) (h : u % 2 = 0) : unz u = ((u / 2 : Nat) : Int) := by unfold unz; rw [if_neg (by omega)]
theorem unz_odd (u : Nat) (h : u % 2 = 1) : unz u = -((u / 2 : Nat) : Int) - 1 := by unfold unz; rw [if_pos h]
end Go.Proofs.Ytalbiggmmmkclaa
namespace Go.Proofs.Ytalbiggmmmkclaa
open Go.RowKit
set_option linter.unusedVariables false
set_option maxRecDepth 100000

/-- Texts as values. -/
def txv (ls : List (List Nat)) : List Value := ls.map fun l => Value.string (strB l)
theorem txv_len (ls : List (List Nat)) : (txv ls).length = ls.length := by simp [txv]
theorem txv_app (ls ms : List (List Nat)) : txv ls ++ txv ms = txv (ls ++ ms) := by simp [txv]
theorem txv_at (ls : List (List Nat)) (j : Nat) : (txv ls)[j]? = ls[j]?.map fun l => Value.string (strB l) := by simp [txv]
theorem txv_one (ls : List (List Nat)) : ∀ u ∈ txv ls, u.oneCell' = true := by
  intro u hu
  obtain ⟨x, _, rfl⟩ := List.mem_map.1 hu
  rfl
theorem infoText : (Try.prog.info? 9).map (fun i => (i.zero, i.size, i.bytes)) = some (some (.string ⟨#[]⟩), 1, 16) := by kernel_rfl
/-- An own slice of texts. -/
def Txo (W : World) (base : Nat) (v : Value) (ls : List (List Nat)) : Prop := W.ownsRow base 9 1 v ls.length (txv ls)
/-- A slice of texts. -/
def Txs (W : World) (v : Value) (ls : List (List Nat)) : Prop := ∃ q cap g off, v = .slice q ls.length cap ∧ ls.length ≤ cap ∧ cap ≤ 9223372036854775807 ∧ (0 < ls.length → q = some ⟨g, off, none⟩) ∧ (0 < ls.length → g < W.heap.size) ∧ ∀ j l, ls[j]? = some l → W.cell? ⟨g, off + j, none⟩ = some (.string (strB l))
theorem txo_of {W : World} {base n : Nat} {v : Value} {ls : List (List Nat)} (h : W.ownsRow base 9 1 v n (txv ls)) : Txo W base v ls := by
  have : n = ls.length := by have := h.1; rw [txv_len, Nat.mul_one] at this; exact this.symm
  subst this
  exact h
theorem Txo.keep {W W' : World} {base : Nat} {v : Value} {ls : List (List Nat)} (h : Txo W base v ls) (hb : Below W.heap.size W W') : Txo W' base v ls := own_keep h hb
theorem Txo.lt {W : World} {base : Nat} {v : Value} {ls : List (List Nat)} (h : Txo W base v ls) : ∀ k, v.ownBlock = some k → base ≤ k ∧ k < W.heap.size := World.ownsRow.lt h
theorem Txo.at {W W' : World} {base : Nat} {v : Value} {ls : List (List Nat)} (h : Txo W base v ls) (he : ∀ k, v.ownBlock = some k → W'.heap[k]? = W.heap[k]?) : Txo W' base v ls := own_at h he
theorem Txo.less {W : World} {base base' : Nat} {v : Value} {ls : List (List Nat)} (h : Txo W base v ls) (hb : base' ≤ base) : Txo W base' v ls := own_less h hb
theorem Txo.txs {W : World} {base : Nat} {v : Value} {ls : List (List Nat)} (h : Txo W base v ls) : Txs W v ls := by
  obtain ⟨h1, q, g, cap, e, hp, hg, _, _, hc, hm, hr, _⟩ := own_open h (by omega)
  exact ⟨q, cap, g, 0, e, hc, hm, hp, hg, fun j l hl => by rw [Nat.zero_add]; exact hr j _ (by rw [txv_at, hl]; rfl)⟩
theorem Txs.keep {W W' : World} {v : Value} {ls : List (List Nat)} (h : Txs W v ls) (hb : Below W.heap.size W W') : Txs W' v ls := by
  obtain ⟨q, cap, g, off, e, h1, h2, h3, h4, h5⟩ := h
  refine ⟨q, cap, g, off, e, h1, h2, h3, fun h0 => Nat.lt_of_lt_of_le (h4 h0) hb.size, fun j l hl => ?_⟩
  have h0 : 0 < ls.length := by have := (List.getElem?_eq_some_iff.1 hl).1; omega
  exact (hb.cell (p := ⟨g, off + j, none⟩) (h4 h0)).trans (h5 j l hl)
theorem Txs.slice {W : World} {v : Value} {ls : List (List Nat)} (h : Txs W v ls) : ∃ q c, v = .slice q ls.length c := by
  obtain ⟨q, cap, g, off, e, _⟩ := h
  exact ⟨q, cap, e⟩
theorem txs_src {W : World} {v : Value} {ls : List (List Nat)} (h : Txs W v ls) : ∃ q cap, v = .slice q ls.length cap ∧ (q = none → ls.length = 0) ∧ (∀ ad, q = some ad → ∀ j u, (txv ls)[j]? = some u → W.cell? (ad.add j) = some u) := by
  obtain ⟨q, cap, g, off, e, h1, h2, h3, h4, h5⟩ := h
  refine ⟨q, cap, e, fun hq => ?_, fun ad ha j u hu => ?_⟩
  · apply Classical.byContradiction
    intro h0
    have := h3 (by omega)
    rw [hq] at this
    cases this
  · rw [txv_at] at hu
    cases hl : ls[j]? with
    | none => rw [hl] at hu; simp at hu
    | some l =>
      rw [hl] at hu
      simp at hu
      subst hu
      have h0 : 0 < ls.length := by have := (List.getElem?_eq_some_iff.1 hl).1; omega
      have := h3 h0
      rw [ha] at this
      cases this
      rw [Addr.add_mid]
      exact h5 j l hl
/-- append of texts onto an own slice of them: its run. -/
theorem app_runS {w : World} (base : Nat) (ty : TypeId) {v vx : Value} {n k : Nat} {ls ms : List (List Nat)} (hown : w.ownsRow base 9 1 v n (txv ls)) (hsl : Txs w vx ms) (hm : ms.length = k) (h63 : n + k ≤ 8000000000000) (hA : base ≤ w.heap.size) :
    ∃ v' w', (Builtin.append_ #[48, 48] ty #[v, vx]).run Try.prog w = .ok v' w' ∧ w'.ownsRow base 9 1 v' (n + k) (txv (ls ++ ms)) ∧ w.grownBy w' v.ownBlock ∧ (v'.ownBlock = v.ownBlock ∨ v'.ownBlock = some w.heap.size) := by
  obtain ⟨i, hi, hz0, hz1, hz2⟩ := info_parts infoText
  subst hm
  obtain ⟨q, cap, rfl, hq, hsrc⟩ := txs_src hsl
  cases q with
  | none =>
    have h0 := hq rfl
    have hm0 : ms = [] := List.eq_nil_of_length_eq_zero h0
    subst hm0
    exact ⟨v, w, append_none (P := Try.prog) w base 48 ty 9 i 1 cap Try.underlying48 hi v n (txv ls) hown, by simpa using hown, ⟨rfl, rfl, rfl, Nat.le_refl _, fun _ _ _ => rfl⟩, .inl rfl⟩
  | some ad =>
    obtain ⟨v', w', hr, h2, h3, h4, h5⟩ := run_append_own_at (P := Try.prog) w base 48 ty 9 i _ 1 16 Try.underlying48 hi hz0 hz1 hz2 rfl (by omega) v n (txv ls) hown ad ms.length cap (txv ms) (by rw [txv_len, Nat.mul_one]) (hsrc ad rfl) (txv_one ms) (by unfold maxLen; omega) (by omega) hA
    exact ⟨v', w', hr, by rw [← txv_app]; exact h2, h3, h5⟩
theorem own_newS (w : World) (ls : List (List Nat)) (n : Nat) (hn : ls.length = n) (hm : n ≤ maxLen) (base : Nat) (hb : base ≤ w.heap.size) : (w.alloc (.cells (txv ls).toArray 9)).ownsRow base 9 1 (.slice (some ⟨w.heap.size, 0, none⟩) n n) n (txv ls) := by
  refine ⟨by rw [txv_len, hn, Nat.mul_one], .inr ⟨w.heap.size, n, (txv ls).toArray, rfl, hb, ?_, Nat.le_refl _, hm, ?_, ?_⟩⟩
  · show (w.heap.push _)[w.heap.size]? = _; simp
  · simp [txv_len, hn]
  · rw [Nat.mul_one, ← hn, ← txv_len ls]; simp
theorem bss0 (w : World) : (Instr.buildSlice 48 0 #[]).run Try.prog w = .ok (.slice (some ⟨w.heap.size, 0, none⟩) 0 0) (w.alloc (.cells (txv []).toArray 9)) := by kernel_rfl
theorem bss1 (l : List Nat) (w : World) : (Instr.buildSlice 48 1 #[(0, .string (strB l))]).run Try.prog w = .ok (.slice (some ⟨w.heap.size, 0, none⟩) 1 1) (w.alloc (.cells (txv [l]).toArray 9)) := by kernel_rfl
section
variable {ops : Array Oper} {rest : List Oper} {o : Oper} {a : Act} {w : World} {Q : Exit → Act → World → Prop}
theorem app_st (base : Nat) (hw : Region.wanted o (yielded ops a.tmps) = true) {s x : Operand} (ho : o.op = .call { callee := .builtin .append, args := #[s, x], argTypes := #[48, 48] })
    {v vx : Value} {n k : Nat} {ls ms : List (List Nat)} (hs : a.eval s = v) (hown : w.ownsRow base 9 1 v n (txv ls)) (hx : a.eval x = vx) (hsl : Txs w vx ms) (hm : ms.length = k) (h63 : n + k ≤ 8000000000000) (hA : base ≤ w.heap.size)
    (h : ∀ v' w', w'.ownsRow base 9 1 v' (n + k) (txv (ls ++ ms)) → w.grownBy w' v.ownBlock → (v'.ownBlock = v.ownBlock ∨ v'.ownBlock = some w.heap.size) → wpList Try.prog ops Q rest (a.put o.dst v') w') : wpList Try.prog ops Q (o :: rest) a w := by
  obtain ⟨v', w', hr, h1, h2, h3⟩ := app_runS base o.type hown hsl hm h63 hA
  unfold wpList
  rw [if_pos hw]
  left
  unfold Oper.wp execOp
  simp only [ho, resolve, invoke, builtin, Sem.run_bind, Sem.run_pure, Result.andThen_ok, List.map_toArray, List.map_cons, List.map_nil, hs, hx, hr]
  exact h v' w' h1 h2 h3
theorem bs_st (hw : Region.wanted o (yielded ops a.tmps) = true) {n : Nat} {parts : Array (Nat × Operand)} (ho : o.op = .buildSlice 48 n parts) (ls : List (List Nat)) {vs : Array (Nat × Value)} (hl : parts.map (fun (i, x) => (i, a.eval x)) = vs)
    (hrun : (Instr.buildSlice 48 n vs).run Try.prog w = .ok (.slice (some ⟨w.heap.size, 0, none⟩) n n) (w.alloc (.cells (txv ls).toArray 9))) (hn : ls.length = n) (hm : n ≤ maxLen)
    (h : ∀ W', W'.ownsRow w.heap.size 9 1 (.slice (some ⟨w.heap.size, 0, none⟩) n n) n (txv ls) → Below w.heap.size w W' → wpList Try.prog ops Q rest (a.put o.dst (.slice (some ⟨w.heap.size, 0, none⟩) n n)) W') : wpList Try.prog ops Q (o :: rest) a w := by
  unfold wpList
  rw [if_pos hw]
  left
  unfold Oper.wp execOp
  simp only [ho, Sem.run_bind, hl, hrun, Result.andThen_ok]
  exact h _ (own_newS w ls n hn hm _ (Nat.le_refl _)) ((Below.refl _ _).alloc (Nat.le_refl _) _)
end
theorem below_ownS {w w' : World} {base : Nat} {v : Value} {n : Nat} {xs : List Value} (h : w.ownsRow base 9 1 v n xs) (hA : base ≤ w.heap.size) (hg : w.grownBy w' v.ownBlock) : Below base w w' :=
  (Below.refl _ _).grown hg hA (fun r hr => (h.lt r hr).1)
set_option maxHeartbeats 1000000 in
theorem dtexts_any (x : Value) (vs : List Value) (ls : List (List Nat)) (w : World) (hx : Ls w x vs ls) (h8 : ls.length ≤ 6000000000000) :
    Calls Try.prog 20 #[x] w fun e w' => ∃ v', e = .returned v' ∧ Txo w' w.heap.size v' ls ∧ Below w.heap.size w w' := by
  obtain ⟨q, cap, g, off, ep, hc, hm, hp, hg, hr⟩ := hx.open
  have hlen := hx.len
  subst ep
  generalize hn : ls.length = n at *
  go_enter Try.func20, Try.ntmps20
  go_wp2_with fail
  go_loopw [3, 9] (fun y i wr => ∃ k : Nat, k ≤ n ∧ i = .int .i64 (k : Int) ∧ Txo wr w.heap.size y (ls.take k) ∧ Below w.heap.size w wr) (fun _ i _ => n - (intOf i).toNat)
  case atStart => exact ⟨0, by omega, rfl, txo_of (n := 0) (own_newS w [] 0 rfl (by decide) _ (Nat.le_refl _)), (Below.refl _ _).alloc (Nat.le_refl _) _⟩
  case round =>
    obtain ⟨k, hk, rfl, HO, hbw⟩ := hrel
    by_cases c : k = n
    · subst c
      rw [List.take_of_length_le (by omega)] at HO
      clear hr hp hg hx
      go_wp2_with fail
      go_ret
      exact ⟨_, rfl, HO, hbw⟩
    · obtain ⟨y, hy⟩ : ∃ y, vs[k]? = some y := ⟨vs[k], List.getElem?_eq_getElem (by omega)⟩
      obtain ⟨l, hl⟩ : ∃ l, ls[k]? = some l := ⟨ls[k], List.getElem?_eq_getElem (by omega)⟩
      obtain rfl := hp (by omega)
      have dy := keep_cell hbw (hr k y hy) (hg (by omega))
      have sy := (hx.each k y l hy hl).keep hbw
      have cy := sl_str sy
      obtain ⟨qy, ny, cy', ey⟩ := sy.slice
      have hki : (k : Int) < (n : Int) := by omega
      have hkn : k < n := by omega
      have HT : Hid (ls.take (k + 1) = ls.take k ++ [l]) := by show _ = _; rw [List.take_add_one, hl]; rfl
      have HTl : (ls.take k).length = k := by rw [List.length_take]; omega
      have HO' : wr.ownsRow w.heap.size 9 1 u3 k (txv (ls.take k)) := by have := HO; unfold Txo at this; rwa [HTl] at this
      subst ey
      clear hr hp hg hx hy hl HO
      go_wp2_with (first
        | (refine bs_st rfl rfl [l] (by simp only [List.map_toArray, List.map_cons, List.map_nil]; rfl) (bss1 _ _) rfl (by decide) ?_; intro W2 n2 b2; have HO2 := own_keep HO' b2; have t2 := (txo_of n2).txs)
        | (at_builtin; refine app_st w.heap.size rfl rfl rfl HO2 rfl t2 rfl (by simp; omega) (ab_trans hbw b2).size ?_; intro v5 W5 hown5 hgr5 hat5))
      have hb5 := (ab_trans hbw b2).trans (below_ownS HO2 (ab_trans hbw b2).size hgr5)
      exact ⟨⟨k + 1, by omega, rfl, by rw [HT.out]; exact txo_of hown5, hb5⟩, by simp only [intOf]; omega⟩
set_option maxHeartbeats 1000000 in
theorem dsame_any (x y : Value) (vs : List Value) (ls ms : List (List Nat)) (w : World) (hx : Ls w x vs ls) (hy : Txs w y ms) (hbl : ∀ l ∈ ls, Byt l) (hbm : ∀ l ∈ ms, Byt l) :
    Calls Try.prog 27 #[x, y] w fun e w' => e = .returned (.bool (decide (ls = ms))) ∧ Below w.heap.size w w' := by
  obtain ⟨q, cap, g, off, ep, hc, hm, hp, hg, hr⟩ := hx.open
  have hlen := hx.len
  subst ep
  obtain ⟨q2, cap2, g2, off2, ep2, hc2, hm2, hp2, hg2, hr2⟩ := hy
  subst ep2
  generalize hn : ls.length = n at *
  generalize hn2 : ms.length = n2 at *
  by_cases hnn : n = n2
  · subst hnn
    go_enter Try.func27, Try.ntmps27
    go_wp2_with fail
    go_loopw [13] (fun i wr => ∃ k : Nat, k ≤ n ∧ i = .int .i64 (k : Int) ∧ ls.take k = ms.take k ∧ Below w.heap.size w wr) (fun i _ => n - (intOf i).toNat)
    case atStart => exact ⟨0, by omega, rfl, rfl, Below.refl _ _⟩
    case round =>
      obtain ⟨k, hk, rfl, hpre, hbw⟩ := hrel
      by_cases c : k = n
      · subst c
        rw [List.take_of_length_le (by omega), List.take_of_length_le (by omega)] at hpre
        have HE : Hid (decide (ls = ms) = true) := decide_eq_true hpre
        clear hr hp hg hx hr2 hp2 hg2 hpre
        go_wp2_with fail
        go_ret
        exact ⟨by rw [HE.out]; rfl, hbw⟩
      · obtain ⟨u, hu⟩ : ∃ y, vs[k]? = some y := ⟨vs[k], List.getElem?_eq_getElem (by omega)⟩
        obtain ⟨l, hl⟩ : ∃ l, ls[k]? = some l := ⟨ls[k], List.getElem?_eq_getElem (by omega)⟩
        obtain ⟨m, hm'⟩ : ∃ l, ms[k]? = some l := ⟨ms[k], List.getElem?_eq_getElem (by omega)⟩
        obtain rfl := hp (by omega)
        obtain rfl := hp2 (by omega)
        have hg' := hg (by omega)
        have hg2' := hg2 (by omega)
        have du := keep_cell hbw (hr k u hu) hg'
        have dm := keep_cell hbw (hr2 k m hm') hg2'
        have su := (hx.each k u l hu hl).keep hbw
        have cu := sl_str su
        obtain ⟨qy, ny, cy', ey⟩ := su.slice
        have hki : (k : Int) < (n : Int) := by omega
        have hkn : k < n := by omega
        have hiff := strB_iff (hbl l (List.mem_of_getElem? hl)) (hbm m (List.mem_of_getElem? hm'))
        have HT : Hid (ls.take (k + 1) = ls.take k ++ [l]) := by show _ = _; rw [List.take_add_one, hl]; rfl
        have HT2 : Hid (ms.take (k + 1) = ms.take k ++ [m]) := by show _ = _; rw [List.take_add_one, hm']; rfl
        have HNE : Hid (l ≠ m → decide (ls = ms) = false) := fun hne => decide_eq_false fun he => hne (by rw [he, hm'] at hl; cases hl; rfl)
        subst ey
        clear hr hp hg hx hu hl hr2 hp2 hg2 hm'
        go_upto_region 6 with fail
        refine wp_region_held_drew (S := fun w' => w' = wr.drew) (by kernel_rfl) rfl (fun hHeld => ?_)
        have bd : Below wr.heap.size wr wr.drew := (Below.refl _ _).drew
        have du2 := keep_cell bd du (Nat.lt_of_lt_of_le hg' hbw.size)
        have dm2 := keep_cell bd dm (Nat.lt_of_lt_of_le hg2' hbw.size)
        have su2 := su.keep bd
        have hb2 := ab_trans hbw bd
        clear du dm su cu bd hbw
        generalize wr.drew = V at *
        by_cases hlm : l = m
        · have hrefl : ((strB m).toList == (strB m).toList) = true := by simp
          subst hlm
          refine takeH (i := 0) (some 16) rfl rfl (by kernel_rfl) (by kernel_rfl) (by kernel_rfl) (fun _ _ _ h => h) (by rfl) (fun w hSw => by (try dsimp only at hSw); go_simp; try rfl) hHeld ?_
          go_frame
          refine takeH (i := 1) (some 17) rfl rfl (by kernel_rfl) (by kernel_rfl) (by kernel_rfl) (fun _ _ _ h => h) (by rfl) (fun w hSw => by (try dsimp only at hSw); go_simp; try rfl) hHeld ?_
          go_frame
          refine takeH (i := 2) (some 18) rfl rfl (by kernel_rfl) (by kernel_rfl) (by kernel_rfl) (fun _ _ _ h => h) (by rfl) (fun w hSw => by (try dsimp only at hSw); go_simp; try rfl) hHeld ?_
          go_frame
          refine takeH (i := 3) (some 19) rfl rfl (by kernel_rfl) (by kernel_rfl) (by kernel_rfl) (fun _ _ _ h => h) (by rfl) (fun w hSw => by (try dsimp only at hSw); (subst hSw; go_simp; try rfl)) hHeld ?_
          go_frame
          refine takeH (i := 4) (some 20) rfl rfl (by kernel_rfl) (by kernel_rfl) (by kernel_rfl) (fun _ _ _ h => h) (by rfl) (fun w hSw => by (try dsimp only at hSw); (subst hSw; exact cv_run (x := .tmp 19) rfl rfl su2)) hHeld ?_
          go_frame
          refine takeH (i := 5) (some 21) rfl rfl (by kernel_rfl) (by kernel_rfl) (by kernel_rfl) (fun _ _ _ h => h) (by rfl) (fun w hSw => by (try dsimp only at hSw); go_simp; try rfl) hHeld ?_
          go_frame
          refine takeH (i := 6) (some 22) rfl rfl (by kernel_rfl) (by kernel_rfl) (by kernel_rfl) (fun _ _ _ h => h) (by rfl) (fun w hSw => by (try dsimp only at hSw); go_simp; try rfl) hHeld ?_
          go_frame
          refine takeH (i := 7) (some 23) rfl rfl (by kernel_rfl) (by kernel_rfl) (by kernel_rfl) (fun _ _ _ h => h) (by rfl) (fun w hSw => by (try dsimp only at hSw); go_simp; try rfl) hHeld ?_
          go_frame
          refine takeH (i := 8) (some 24) rfl rfl (by kernel_rfl) (by kernel_rfl) (by kernel_rfl) (fun _ _ _ h => h) (by rfl) (fun w hSw => by (try dsimp only at hSw); (subst hSw; go_simp; try rfl)) hHeld ?_
          go_frame
          refine takeH (i := 9) (some 25) rfl rfl (by kernel_rfl) (by kernel_rfl) (by kernel_rfl) (fun _ _ _ h => h) (by rfl) (fun w hSw => by (try dsimp only at hSw); (refine (?_ : _ = Result.ok (Next.value (.bool false)) _); go_simp; try rfl)) hHeld ?_
          go_frame
          refine wpAnyH_done (by kernel_rfl) ?_ _
          go_wp2_with fail
          exact ⟨⟨k + 1, by omega, rfl, by rw [HT.out, HT2.out, hpre], hb2⟩, by simp only [intOf]; omega⟩
        · have hneb := strB_ne (fun h => hlm (hiff.1 h))
          have HE := HNE.out hlm
          refine takeH (i := 0) (some 16) rfl rfl (by kernel_rfl) (by kernel_rfl) (by kernel_rfl) (fun _ _ _ h => h) (by rfl) (fun w hSw => by (try dsimp only at hSw); go_simp; try rfl) hHeld ?_
          go_frame
          refine takeH (i := 1) (some 17) rfl rfl (by kernel_rfl) (by kernel_rfl) (by kernel_rfl) (fun _ _ _ h => h) (by rfl) (fun w hSw => by (try dsimp only at hSw); go_simp; try rfl) hHeld ?_
          go_frame
          refine takeH (i := 2) (some 18) rfl rfl (by kernel_rfl) (by kernel_rfl) (by kernel_rfl) (fun _ _ _ h => h) (by rfl) (fun w hSw => by (try dsimp only at hSw); go_simp; try rfl) hHeld ?_
          go_frame
          refine takeH (i := 3) (some 19) rfl rfl (by kernel_rfl) (by kernel_rfl) (by kernel_rfl) (fun _ _ _ h => h) (by rfl) (fun w hSw => by (try dsimp only at hSw); (subst hSw; go_simp; try rfl)) hHeld ?_
          go_frame
          refine takeH (i := 4) (some 20) rfl rfl (by kernel_rfl) (by kernel_rfl) (by kernel_rfl) (fun _ _ _ h => h) (by rfl) (fun w hSw => by (try dsimp only at hSw); (subst hSw; exact cv_run (x := .tmp 19) rfl rfl su2)) hHeld ?_
          go_frame
          refine takeH (i := 5) (some 21) rfl rfl (by kernel_rfl) (by kernel_rfl) (by kernel_rfl) (fun _ _ _ h => h) (by rfl) (fun w hSw => by (try dsimp only at hSw); go_simp; try rfl) hHeld ?_
          go_frame
          refine takeH (i := 6) (some 22) rfl rfl (by kernel_rfl) (by kernel_rfl) (by kernel_rfl) (fun _ _ _ h => h) (by rfl) (fun w hSw => by (try dsimp only at hSw); go_simp; try rfl) hHeld ?_
          go_frame
          refine takeH (i := 7) (some 23) rfl rfl (by kernel_rfl) (by kernel_rfl) (by kernel_rfl) (fun _ _ _ h => h) (by rfl) (fun w hSw => by (try dsimp only at hSw); go_simp; try rfl) hHeld ?_
          go_frame
          refine takeH (i := 8) (some 24) rfl rfl (by kernel_rfl) (by kernel_rfl) (by kernel_rfl) (fun _ _ _ h => h) (by rfl) (fun w hSw => by (try dsimp only at hSw); (subst hSw; go_simp; try rfl)) hHeld ?_
          go_frame
          refine takeH (i := 9) (some 25) rfl rfl (by kernel_rfl) (by kernel_rfl) (by kernel_rfl) (fun _ _ _ h => h) (by rfl) (fun w hSw => by (try dsimp only at hSw); (refine (?_ : _ = Result.ok (Next.value (.bool true)) _); go_simp; try rfl)) hHeld ?_
          go_frame
          refine wpAnyH_done (by kernel_rfl) ?_ _
          go_wp2_with fail
          go_ret
          exact ⟨rfl, hb2⟩
  · have HE : Hid (decide (ls = ms) = false) := decide_eq_false fun he => hnn (by rw [← hn, ← hn2, he])
    have hni : ((n : Int) == (n2 : Int)) = false := by simp; omega
    go_enter Try.func27, Try.ntmps27
    go_wp2_with fail
    go_ret
    exact ⟨by rw [HE.out]; rfl, Below.refl _ _⟩
theorem dsame_yes (x y : Value) (vs : List Value) (ls : List (List Nat)) (w : World) (hx : Ls w x vs ls) (hy : Txs w y ls) (hbl : ∀ l ∈ ls, Byt l) :
    Calls Try.prog 27 #[x, y] w fun e w' => e = .returned (.bool true) ∧ Below w.heap.size w w' :=
  (dsame_any x y vs ls ls w hx hy hbl hbl).mono fun e w' ⟨h1, h2⟩ => ⟨by rw [h1]; simp, h2⟩
end Go.Proofs.Ytalbiggmmmkclaa
namespace Go.Proofs.Ytalbiggmmmkclaa
open Go.RowKit
set_option linter.unusedVariables false
set_option maxRecDepth 100000

/-- Own rows of unlike things lie apart. -/
theorem sep_ty {W : World} {b b' n m e e' s s' : Nat} {v u : Value} {xs ys : List Value} (h : W.ownsRow b e s v n xs) (k : W.ownsRow b' e' s' u m ys) (hn : e ≠ e') : Sep v u := by
  intro g hg hu
  rcases h.2 with ⟨h2, _⟩ | ⟨g1, cap, cur, h2, hb, hg1, _⟩
  · rw [h2] at hg; cases hg
  · rcases k.2 with ⟨k2, _⟩ | ⟨g2, cap2, cur2, k2, kb, kg2, _⟩
    · rw [k2] at hu; cases hu
    · rw [h2] at hg
      rw [k2] at hu
      have e1 : g1 = g := by simpa [Value.ownBlock] using hg
      have e2 : g2 = g := by simpa [Value.ownBlock] using hu
      subst e1
      subst e2
      rw [hg1] at kg2
      cases kg2
      exact hn rfl
theorem below_ownE {w w' : World} {base n e s : Nat} {v : Value} {xs : List Value} (h : w.ownsRow base e s v n xs) (hA : base ≤ w.heap.size) (hg : w.grownBy w' v.ownBlock) : Below base w w' :=
  (Below.refl _ _).grown hg hA (fun r hr => (h.lt r hr).1)
theorem ls_own {W : World} {b n : Nat} {v : Value} {vs : List Value} {ls : List (List Nat)} (ho : W.ownsRow b 39 1 v n vs) (hlen : vs.length = ls.length) (hE : ∀ (j : Nat) (x : Value) (l : List Nat), vs[j]? = some x → ls[j]? = some l → Sl W x l) : Ls W v vs ls := by
  obtain ⟨h1, q, g, cap, rfl, hp, hg, _, _, hc, hm, hr, _⟩ := own_open ho (by omega)
  rw [Nat.mul_one] at h1
  subst h1
  exact ⟨hlen, ⟨q, cap, rfl, hc, hm, fun h0 => ⟨g, 0, hp h0, hg h0, fun j x hx => by rw [Nat.zero_add]; exact hr j x hx⟩⟩, hE⟩
theorem ls_src {W : World} {v : Value} {vs : List Value} {ls : List (List Nat)} (h : Ls W v vs ls) : ∃ q cap, v = .slice q ls.length cap ∧ (q = none → ls.length = 0) ∧ (∀ ad, q = some ad → ∀ j u, vs[j]? = some u → W.cell? (ad.add j) = some u) ∧ ∀ u ∈ vs, u.oneCell' = true := by
  obtain ⟨q, cap, g, off, e, h1, h2, h3, h4, h5⟩ := h.open
  refine ⟨q, cap, e, fun hq => ?_, fun ad ha j u hu => ?_, fun u hu => ?_⟩
  · apply Classical.byContradiction
    intro h0
    have := h3 (by omega)
    rw [hq] at this
    cases this
  · have h0 : 0 < ls.length := by have := (List.getElem?_eq_some_iff.1 hu).1; rw [h.len] at this; omega
    have := h3 h0
    rw [ha] at this
    cases this
    rw [Addr.add_mid]
    exact h5 j u hu
  · obtain ⟨j, hj⟩ := List.getElem?_of_mem hu
    have hjl : j < ls.length := by have := (List.getElem?_eq_some_iff.1 hj).1; rwa [h.len] at this
    obtain ⟨a, b, c, rfl⟩ := (h.each j u _ hj (List.getElem?_eq_getElem hjl)).slice
    rfl
/-- append of a list of bytes onto an own one: its run. -/
theorem app_runL {w : World} (base : Nat) (ty : TypeId) {v vx : Value} {n k : Nat} {xs vs : List Value} {ls : List (List Nat)} (hown : w.ownsRow base 39 1 v n xs) (hsl : Ls w vx vs ls) (hm : ls.length = k) (h63 : n + k ≤ 1000000) (hA : base ≤ w.heap.size) :
    ∃ v' w', (Builtin.append_ #[31, 31] ty #[v, vx]).run Try.prog w = .ok v' w' ∧ w'.ownsRow base 39 1 v' (n + k) (xs ++ vs) ∧ w.grownBy w' v.ownBlock ∧ (v'.ownBlock = v.ownBlock ∨ v'.ownBlock = some w.heap.size) := by
  obtain ⟨i, hi, hz0, hz1, hz2⟩ := info_parts infoBytes
  subst hm
  obtain ⟨q, cap, rfl, hq, hsrc, hone⟩ := ls_src hsl
  cases q with
  | none =>
    have h0 := hq rfl
    have hv0 : vs = [] := List.eq_nil_of_length_eq_zero (by rw [hsl.len]; exact h0)
    subst hv0
    rw [h0]
    exact ⟨v, w, append_none (P := Try.prog) w base 31 ty 39 i 1 cap Try.underlying31 hi v n xs hown, by simpa using hown, ⟨rfl, rfl, rfl, Nat.le_refl _, fun _ _ _ => rfl⟩, .inl rfl⟩
  | some ad =>
    obtain ⟨v', w', hr, h2, h3, h4, h5⟩ := run_append_own_at (P := Try.prog) w base 31 ty 39 i _ 1 24 Try.underlying31 hi hz0 hz1 hz2 rfl (by omega) v n xs hown ad ls.length cap vs (by rw [Nat.mul_one]; exact hsl.len) (hsrc ad rfl) hone (by unfold maxLen; omega) (by omega) hA
    exact ⟨v', w', hr, h2, h3, h5⟩
theorem own_newL (w : World) (xs : List Value) (n : Nat) (hn : xs.length = n) (hm : n ≤ maxLen) : (w.alloc (.cells xs.toArray 39)).ownsRow w.heap.size 39 1 (.slice (some ⟨w.heap.size, 0, none⟩) n n) n xs := by
  refine ⟨by rw [hn, Nat.mul_one], .inr ⟨w.heap.size, n, xs.toArray, rfl, Nat.le_refl _, ?_, Nat.le_refl _, hm, ?_, ?_⟩⟩
  · show (w.heap.push _)[w.heap.size]? = _; simp
  · simp [hn]
  · rw [Nat.mul_one, ← hn]; simp
section
variable {o : Oper} {a : Act} {w : World} {K : Act → World → Prop} {Q : Exit → Act → World → Prop}
theorem lst0W (d : Option Tmp) (hd : o.dst = d) (ho : o.op = .buildSlice 31 0 #[]) (h : ∀ v' W', W'.ownsRow w.heap.size 39 1 v' 0 [] → Below w.heap.size w W' → K (a.put d v') W') : o.wp Try.prog a w K Q := by
  subst hd
  have hrun : (Instr.buildSlice 31 0 #[]).run Try.prog w = .ok (.slice (some ⟨w.heap.size, 0, none⟩) 0 0) (w.alloc (.cells #[] 39)) := by kernel_rfl
  unfold Oper.wp execOp
  simp only [ho, Sem.run_bind, List.map_toArray, List.map_nil, hrun, Result.andThen_ok]
  exact h _ _ (own_newL w [] 0 rfl (by decide)) ((Below.refl _ _).alloc (Nat.le_refl _) _)
theorem lst1W (d : Option Tmp) (hd : o.dst = d) {x : Operand} (ho : o.op = .buildSlice 31 1 #[(0, x)]) {q : Option Addr} {n c : Nat} (hx : a.eval x = .slice q n c) (h : ∀ v' W', W'.ownsRow w.heap.size 39 1 v' 1 [.slice q n c] → Below w.heap.size w W' → K (a.put d v') W') : o.wp Try.prog a w K Q := by
  subst hd
  have hrun := bsl1 q n c w
  unfold Oper.wp execOp
  simp only [ho, Sem.run_bind, List.map_toArray, List.map_cons, List.map_nil, hx, hrun, Result.andThen_ok]
  exact h _ _ (own_newL w [.slice q n c] 1 rfl (by decide)) ((Below.refl _ _).alloc (Nat.le_refl _) _)
theorem mkbW (d : Option Tmp) (hd : o.dst = d) {x y : Operand} (ho : o.op = .makeSlice 39 x y) {n : Nat} {N : Int} (hx : a.eval x = .int .i64 N) (hy : a.eval y = .int .i64 N) (hN : N = (n : Int)) (hn : n ≤ 4000000)
    (h : ∀ v' W' Z, Z.length = n → Byt Z → Ow W' w.heap.size v' Z → Below w.heap.size w W' → K (a.put d v') W') : o.wp Try.prog a w K Q := by
  subst hN
  subst hd
  obtain ⟨i, hi, hz0, hz1, hz2⟩ := info_parts infoByte
  obtain ⟨w', hr, ho', hg⟩ := run_make_full (P := Try.prog) w w.heap.size 39 5 i _ 1 Try.underlying39 hi hz0 hz1 .i64 .i64 n (by rw [hz2]; omega) (by unfold maxLen; omega) (Nat.le_refl _)
  unfold Oper.wp execOp
  simp only [ho, Sem.run_bind, hx, hy, hr, Result.andThen_ok]
  refine h _ _ (List.replicate n 0) (by simp) (fun x hx => by simp at hx; omega) (ow_of (n := n) ?_) (below_grown (Below.refl _ _) hg)
  have e : bys (List.replicate n 0) = (madeCells (Value.cells (.int .u8 0)) (n * 1)).toList := by
    rw [Nat.mul_one, show Value.cells (.int .u8 0) = #[.int .u8 0] from rfl, toList_madeCells_one]
    simp [bys]
  rw [e]
  exact ho'
theorem appLW (base : Nat) (d : Option Tmp) (hd : o.dst = d) {s x : Operand} (ho : o.op = .call { callee := .builtin .append, args := #[s, x], argTypes := #[31, 31] })
    {v vx : Value} {n k : Nat} {xs vs : List Value} {ls : List (List Nat)} (hs : a.eval s = v) (hown : w.ownsRow base 39 1 v n xs) (hx : a.eval x = vx) (hsl : Ls w vx vs ls) (hm : ls.length = k) (h63 : n + k ≤ 1000000) (hA : base ≤ w.heap.size)
    (h : ∀ v' w', w'.ownsRow base 39 1 v' (n + k) (xs ++ vs) → w.grownBy w' v.ownBlock → K (a.put d v') w') : o.wp Try.prog a w K Q := by
  subst hd
  obtain ⟨v', w', hr, h1, h2, h3⟩ := app_runL base o.type hown hsl hm h63 hA
  unfold Oper.wp execOp
  simp only [ho, resolve, invoke, builtin, Sem.run_bind, Sem.run_pure, Result.andThen_ok, List.map_toArray, List.map_cons, List.map_nil, hs, hx, hr]
  exact h v' w' h1 h2
end
theorem mk_by {ops : Array Oper} {rest : List Oper} {o : Oper} {a : Act} {w : World} {Q : Exit → Act → World → Prop} (hw : Region.wanted o (yielded ops a.tmps) = true) {x y : Operand} (ho : o.op = .makeSlice 39 x y) {n : Nat} {N : Int} (hx : a.eval x = .int .i64 N) (hy : a.eval y = .int .i64 N) (hN : N = (n : Int)) (hn : n ≤ 4000000)
    (h : ∀ v' W' Z, Z.length = n → Byt Z → Ow W' w.heap.size v' Z → Below w.heap.size w W' → wpList Try.prog ops Q rest (a.put o.dst v') W') : wpList Try.prog ops Q (o :: rest) a w := by
  unfold wpList
  rw [if_pos hw]
  left
  exact mkbW o.dst rfl ho hx hy hN hn h
theorem drewrite_no (base b d nr ns : Nat) (v x : Value) (vs : List Value) (ls : List (List Nat)) (S : TS) (w : World) (hT : Tp w base b v S) (hst : S.steps < 4611686018427387000) (hD : Blk w d (dcs b nr ns) 80) (hx : Ls w x vs ls) (hb : ∀ l ∈ ls, Byt l) (hr14 : ∀ l ∈ ls, l.length ≤ 200000000000000) (hno : ∃ l ∈ ls, 16376 < l.length) :
    Calls Try.prog 18 #[tptr d, x] w fun e w' => e = .returned (Err 7) ∧ ∃ v', Tp w' base b v' S ∧ Mw b d w w' v v' ∧ Blk w' d (dcs b nr ns) 80 := by
  have hk : ¬ rwOK ls = true := fun h => by
    obtain ⟨l, hl, h2⟩ := hno
    have := ((rwOK_iff ls).1 h).1 l hl
    omega
  have h7 : rwN S ls = 7 := if_neg hk
  have hS : rwS S ls = S := if_neg hk
  refine (drewrite_any base b d nr ns v x vs ls S w hT hst hD hx hb hr14).mono ?_
  rw [h7, hS]
  rintro e w' ⟨rfl, v', h1, h2, -, h3⟩
  exact ⟨rfl, v', h1, h2, h3 (by decide)⟩
end Go.Proofs.Ytalbiggmmmkclaa
