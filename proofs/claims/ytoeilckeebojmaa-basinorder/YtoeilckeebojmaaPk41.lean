/-
  Parts of slices of numbers; note.placeOf, counted.
  Slices of structs that the call makes and writes; note.opsOf.
  note.entryOf.
  note.entriesOf.
  note.read: the note that has these numbers.
  note.Decode.
-/
import Derived.Test.YtoeilckeebojmaaPk40
import Derived.Test.YtoeilckeebojmaaPk25
namespace Go.Proofs.Ytoeilckeebojmaa
set_option maxRecDepth 100000
open Go.RowKit Go.Shelf
set_option linter.unusedVariables false

theorem info_place (a b : Int) : (Try.prog.info? 38).map (·.size) = some (#[Value.int .i64 a, .int .i64 b]).size := by kernel_rfl
def CtP (W : World) (c : Int) (s : Nat) (r : List Int) (e : Ending) : Prop :=
  ((c < 0 ∨ ((r.length / s : Nat) : Int) < c) → e = .returned (.tuple #[.slice none 0 0, .slice none 0 0, .bool false])) ∧
  (∀ m : Nat, c = (m : Int) → m ≤ r.length / s → ∃ v1 v2, e = .returned (.tuple #[v1, v2, .bool true]) ∧ Is W v1 (r.take (m * s)) ∧ Is W v2 (r.drop (m * s)))

end Go.Proofs.Ytoeilckeebojmaa
namespace Go.Proofs.Ytoeilckeebojmaa
set_option maxRecDepth 100000
open Go.RowKit Go.Shelf
set_option linter.unusedVariables false

/-- Cells written one behind the other. -/
def setL : List Value → Nat → List Value → List Value
  | xs, _, [] => xs
  | xs, o, c :: cs => setL (xs.set o c) (o + 1) cs
theorem setL_mid : ∀ (C A P B : List Value), A.length = C.length → setL (P ++ A ++ B) P.length C = P ++ C ++ B
  | [], A, P, B, h => by
    have : A = [] := List.eq_nil_of_length_eq_zero (by simpa using h)
    subst this
    rfl
  | c :: C, [], P, B, h => by simp at h
  | c :: C, a :: A, P, B, h => by
    unfold setL
    have e : (P ++ a :: A ++ B).set P.length c = (P ++ [c]) ++ A ++ B := by simp
    have := setL_mid C A (P ++ [c]) B (by simpa using h)
    rw [List.length_append, List.length_singleton] at this
    rw [e, this]
    simp
theorem flatA_setL (k : Nat) (ks : Nat → IntKind) (L : List (Nat → Int)) (m : Nat) (c : Nat → Int) (hm : m < L.length) : setL (flatA k ks L) (m * k) (AG k ks c).toList = flatA k ks (L.set m c) := by
  have e1 : L = L.take m ++ [L[m]] ++ L.drop (m + 1) := by simp
  have e2 : L.set m c = L.take m ++ [c] ++ L.drop (m + 1) := by
    rw [List.set_eq_take_append_cons_drop, if_pos hm]; simp
  have one : ∀ x, flatA k ks [x] = (AG k ks x).toList := fun x => by simp [flatA]
  rw [e2, ← flatA_append, ← flatA_append, one]
  conv => lhs; rw [e1, ← flatA_append, ← flatA_append, one]
  have hl : (flatA k ks (L.take m)).length = m * k := by rw [flatA_len, List.length_take, Nat.min_eq_left (by omega)]
  rw [← hl]
  exact setL_mid _ _ _ _ (by rw [AG_len, AG_len])
theorem own_setL {e size base n g cap : Nat} : ∀ (cs : List Value) (o : Nat) (W : World) (xs : List Value), W.ownsRow base e size (.slice (some ⟨g, 0, none⟩) n cap) n xs →
    (W.setCells g o cs).ownsRow base e size (.slice (some ⟨g, 0, none⟩) n cap) n (setL xs o cs) ∧ Chg g W (W.setCells g o cs)
  | [], o, W, xs, h => ⟨h, Chg.refl _ _⟩
  | c :: cs, o, W, xs, h => by
    have h1 := (h.stored o c).1
    obtain ⟨h2, h3⟩ := own_setL cs (o + 1) _ _ h1
    exact ⟨h2, (chg_set _ _ _ _).trans h3⟩
theorem so_stored {e : TypeId} {k : Nat} {ks : Nat → IntKind} {W : World} {base n g cap m : Nat} {L : List (Nat → Int)} (hk : 0 < k) (h : W.ownsRow base e k (.slice (some ⟨g, 0, none⟩) n cap) n (flatA k ks L)) (hm : m < n) (c : Nat → Int) :
    (W.setCells g (m * k) (AG k ks c).toList).ownsRow base e k (.slice (some ⟨g, 0, none⟩) n cap) n (flatA k ks (L.set m c)) ∧ Chg g W (W.setCells g (m * k) (AG k ks c).toList) ∧ W.there g (m * k) (AG k ks c).size := by
  have hlen : L.length = n := by have := h.1; rw [flatA_len] at this; exact Nat.eq_of_mul_eq_mul_right hk this
  obtain ⟨h1, h2⟩ := own_setL (AG k ks c).toList (m * k) W _ h
  rw [flatA_setL k ks L m c (by omega)] at h1
  refine ⟨h1, h2, fun j hj => ⟨?_, h.frozenAt _⟩⟩
  obtain ⟨_, _, e, _, _, _, _, hc⟩ := own_cells h (by simp)
  cases e
  rw [AG_size] at hj
  rw [hc _ _ (flatA_at k ks L m _ (List.getElem?_eq_getElem (by omega)) j _ (AG_at k ks _ j hj))]
  rfl
theorem made_A (k : Nat) (ks : Nat → IntKind) (hk : 0 < k) (n : Nat) : (madeCells (Value.agg (AG k ks zc)).cells (n * k)).toList = flatA k ks (List.replicate n zc) := by
  apply List.ext_getElem?
  intro j
  by_cases hj : j < n * k
  · have hm : j % k < k := Nat.mod_lt _ hk
    have hd : j / k < n := Nat.div_lt_of_lt_mul (by rwa [Nat.mul_comm])
    have := flatA_at k ks (List.replicate n zc) (j / k) zc (by simp [hd]) (j % k) _ (AG_at k ks zc _ hm)
    rw [Nat.mul_comm, Nat.div_add_mod] at this
    rw [this]
    simp [madeCells, Value.cells, hj, AG, hm]
  · rw [List.getElem?_eq_none (by simp [madeCells]; omega), List.getElem?_eq_none (by rw [flatA_len, List.length_replicate]; omega)]
section
variable {ops : Array Oper} {rest : List Oper} {o : Oper} {a : Act} {w : World} {Q : Exit → Act → World → Prop}
/-- 'make' of so many structs. -/
theorem mk_so (hw : Region.wanted o (yielded ops a.tmps) = true) {t e : TypeId} {k bytes : Nat} {ks : Nat → IntKind} (hk : 0 < k) (ht : Try.prog.underlying t = some (.slice e)) (hinf : (Try.prog.info? e).map (fun i => (i.zero, i.size, i.bytes)) = some (some (.agg (AG k ks zc)), k, bytes))
    {x y : Operand} (ho : o.op = .makeSlice t x y) {c : Nat} (hx : a.eval x = .int .i64 (c : Int)) (hy : a.eval y = .int .i64 (c : Int)) (hb : bytes * c ≤ 281474976710656) (hc : c ≤ 1000000000)
    (h : ∀ W', W'.ownsRow w.heap.size e k (.slice (some ⟨w.heap.size, 0, none⟩) c c) c (flatA k ks (List.replicate c zc)) → Below w.heap.size w W' → wpList Try.prog ops Q rest (a.put o.dst (.slice (some ⟨w.heap.size, 0, none⟩) c c)) W') : wpList Try.prog ops Q (o :: rest) a w := by
  obtain ⟨i, hi, hz0, hz1, hz2⟩ := info_parts hinf
  obtain ⟨w', hr, ho', hg⟩ := run_make_full (P := Try.prog) w w.heap.size t e i _ k ht hi hz0 hz1 .i64 .i64 c (by rw [hz2]; exact hb) (by unfold maxLen; omega) (Nat.le_refl _)
  rw [made_A k ks hk] at ho'
  unfold wpList
  rw [if_pos hw]
  left
  unfold Oper.wp execOp
  simp only [ho, Sem.run_bind, hx, hy, hr, Result.andThen_ok]
  exact h _ ho' (below_grown (Below.refl _ _) hg)
/-- A struct into the middle of an own row: at one operation. -/
theorem soW {K : Act → World → Prop} (d : Option Tmp) (hd : o.dst = d) {e : TypeId} {k : Nat} {ks : Nat → IntKind} (hk : 0 < k) (hi : (Try.prog.info? e).map (·.size) = some k) {x y : Operand} (ho : o.op = .store e x y) {base n g cap m : Nat} {L : List (Nat → Int)}
    (h : w.ownsRow base e k (.slice (some ⟨g, 0, none⟩) n cap) n (flatA k ks L)) (hm : m < n) (c : Nat → Int) (hx : a.eval x = .pointer (some ⟨g, m * k, none⟩)) (hy : a.eval y = .agg (AG k ks c))
    (hK : ∀ W', W'.ownsRow base e k (.slice (some ⟨g, 0, none⟩) n cap) n (flatA k ks (L.set m c)) → Chg g w W' → K (a.put d undef) W') : o.wp Try.prog a w K Q := by
  subst hd
  obtain ⟨h1, h2, h3⟩ := so_stored hk h hm c
  exact wp_store_mid e x y ho g (m * k) (AG k ks c) hx hy h3 (by rw [AG_size]; exact hi) (by rw [Array.all_eq_true']; intro x hx; exact AG_one k ks c x (by simpa using hx)) (hK _ h1 h2)
end

theorem info_opz : (Try.prog.info? 27).map (·.size) = some 5 := by kernel_rfl
/-- Operations of numbers. -/
def opAt (l : List Int) (j : Nat) : Nat → Int := fun i => l.getD (5 * j + i) 0
def opsL (l : List Int) (m : Nat) : List (Nat → Int) := (List.range m).map (opAt l)
theorem opsL_len (l : List Int) (m : Nat) : (opsL l m).length = m := by simp [opsL]
/-- As far as they are written. -/
def opsU (l : List Int) (m j : Nat) : List (Nat → Int) := opsL l j ++ List.replicate (m - j) zc
theorem opsU_next (l : List Int) (m j : Nat) (h : j < m) : (opsU l m j).set j (opAt l j) = opsU l m (j + 1) := by
  obtain ⟨d, rfl⟩ : ∃ d, m = j + d + 1 := ⟨m - j - 1, by omega⟩
  unfold opsU
  rw [List.set_append_right _ _ (by simp [opsL]), opsL_len, Nat.sub_self, show j + d + 1 - j = d + 1 by omega, show j + d + 1 - (j + 1) = d by omega, List.replicate_succ, List.set_cons_zero]
  unfold opsL
  rw [List.range_succ, List.map_append, List.append_assoc]
  rfl
theorem opsU_end (l : List Int) (m : Nat) : opsU l m m = opsL l m := by simp [opsU]

end Go.Proofs.Ytoeilckeebojmaa
namespace Go.Proofs.Ytoeilckeebojmaa
set_option maxRecDepth 100000
open Go.RowKit Go.Shelf
set_option linter.unusedVariables false

def mkE (a b : Int) (c : Nat → Int) : Nat → Int := fun i => if i = 0 then a else if i = 1 then b else c (i - 2)
theorem built_ent (a b : Int) (c : Nat → Int) : Try.prog.built 107 [(0, .agg #[.int .i64 a, .int .i64 b]), (1, .agg (CA c))] = some (EA (mkE a b c)) := by kernel_rfl
theorem zc_ent : Try.zeroCells107 = EA zc := by kernel_rfl
theorem built_ent0 : Try.prog.built 107 [] = some (EA zc) := by kernel_rfl
theorem cE_mkE (a b : Int) (c : Nat → Int) : cE (mkE a b c) = c := by
  funext i
  unfold cE mkE
  rw [if_neg (by omega), if_neg (by omega), Nat.add_sub_cancel_left]
theorem enN_mkE (a b : Int) (c : Nat → Int) : enN (mkE a b c) = a :: b :: numsF c := by unfold enN; rw [cE_mkE]; rfl
theorem EA_all (c : Nat → Int) : (EA c).all (·.oneCell') = true := by rw [Array.all_eq_true']; intro x hx; exact AG_one 76 ek c x (by simpa using hx)

/-- Numbers that begin with no entry. -/
def NoE (l : List Int) : Prop := l.length < 2 ∨ NoT (l.drop 2)
theorem noT_nums {l : List Int} (h : NoT l) {c : Nat → Int} (hc : Wf c) (more : List Int) : l ≠ numsF c ++ more := by
  intro e
  obtain ⟨hp, nx, g, hf, -⟩ := take_nums c hc more
  rw [← e] at hp
  rcases h with h | ⟨h1, h2⟩ | ⟨ps, more', h1, h2⟩
  · have := hp.len; omega
  · have h3 := congrArg List.length hp.rest
    rw [List.length_drop, List.length_append, flatP_len] at h3
    have h4 := hp.nine
    omega
  · have h3 : ps.length = (pp (Go.Proofs.Ytoeilckeebojmaa.hf c) 65).length := by have := h1.nine.symm.trans hp.nine; omega
    have h4 := h1.rest.symm.trans hp.rest
    have h5 := (List.append_inj h4 (by rw [flatP_len, flatP_len, h3])).1
    rw [flatP_inj _ _ h5, hf] at h2
    cases h2
theorem noE_nums {l : List Int} (h : NoE l) {e : Nat → Int} (he : WE e) (more : List Int) : l ≠ enN e ++ more := by
  intro eq
  rcases h with h | h
  · rw [eq] at h; simp [enN] at h; omega
  · refine noT_nums h he.2.2 more ?_
    rw [eq]
    simp [enN]
/-- Or with one. -/
theorem entry_cases (l : List Int) : NoE l ∨ ∃ a b r ps more nx h, l = a :: b :: r ∧ Parts r ps more ∧ foldH ps = some (nx, h) := by
  match l with
  | [] => exact .inl (.inl (by simp))
  | [_] => exact .inl (.inl (by simp))
  | a :: b :: r =>
    rcases take_cases r with h | ⟨ps, more, nx, h, h1, h2⟩
    · exact .inl (.inr h)
    · exact .inr ⟨a, b, r, ps, more, nx, h, rfl, h1, h2⟩

end Go.Proofs.Ytoeilckeebojmaa
namespace Go.Proofs.Ytoeilckeebojmaa
set_option maxRecDepth 100000
open Go.RowKit Go.Shelf
set_option linter.unusedVariables false

section
variable {ops : Array Oper} {rest : List Oper} {o : Oper} {a : Act} {w : World} {Q : Exit → Act → World → Prop}
/-- append of structs onto an own slice of them. -/
theorem app_s (A : World) (hw : Region.wanted o (yielded ops a.tmps) = true) {s x : Operand} {t e : TypeId} {k bytes : Nat} {ks : Nat → IntKind} (ho : o.op = .call { callee := .builtin .append, args := #[s, x], argTypes := #[t, t] })
    (hk : 0 < k) (ht : Try.prog.underlying t = some (.slice e)) (hinf : (Try.prog.info? e).map (fun i => (i.zero, i.size, i.bytes)) = some (some (.agg (AG k ks zc)), k, bytes))
    {v vx : Value} {l m : List (Nat → Int)} (hs : a.eval s = v) (hown : SO e k ks w A.heap.size v l) (hx : a.eval x = vx) (hsl : SR k ks w vx m) (h63 : l.length + m.length ≤ 1000000000) (hbytes : (l.length + m.length) * bytes ≤ 140737488355328) (hA : Below A.heap.size A w)
    (h : ∀ v' w', SO e k ks w' A.heap.size v' (l ++ m) → Below A.heap.size A w' → w.grownBy w' v.ownBlock → wpList Try.prog ops Q rest (a.put o.dst v') w') : wpList Try.prog ops Q (o :: rest) a w := by
  obtain ⟨q, cap, rfl, hq, hsrc⟩ := hsl.src hk
  refine app_ownG A hw ho ht hinf (by show (AG k ks zc).size = k; exact AG_size _ _ _) hk hs hown (flatA k ks m) hx hq (flatA_len k ks m) hsrc (flatA_one k ks m) (by unfold maxLen; omega) hbytes hA fun v' w' h1 h2 h3 h4 => ?_
  rw [flatA_append] at h1
  exact h v' w' (so_of h1 hk) h3 h4
theorem bse1 (e : Nat → Int) (w : World) : (Instr.buildSlice 77 1 #[(0, .agg (EA e))]).run Try.prog w = .ok (.slice (some ⟨w.heap.size, 0, none⟩) 1 1) (w.alloc (.cells (EA e) 107)) := by kernel_rfl
theorem so_new1 (w : World) (e : Nat → Int) : SO 107 76 ek (w.alloc (.cells (EA e) 107)) w.heap.size (.slice (some ⟨w.heap.size, 0, none⟩) 1 1) [e] := by
  have hf : flatA 76 ek [e] = (EA e).toList := by simp [flatA]
  refine ⟨flatA_len 76 ek [e], .inr ⟨w.heap.size, 1, EA e, rfl, Nat.le_refl _, by show (w.heap.push _)[w.heap.size]? = _; simp, by simp, by unfold maxLen; omega, ?_, ?_⟩⟩
  · simp [AG_size]
  · rw [hf]; exact List.take_of_length_le (by rw [AG_len]; simp)
theorem bs_e1 (hw : Region.wanted o (yielded ops a.tmps) = true) {parts : Array (Nat × Operand)} (ho : o.op = .buildSlice 77 1 parts) (e : Nat → Int) (hl : parts.map (fun (i, x) => (i, a.eval x)) = #[(0, .agg (EA e))])
    (h : ∀ W', SO 107 76 ek W' w.heap.size (.slice (some ⟨w.heap.size, 0, none⟩) 1 1) [e] → Below w.heap.size w W' → wpList Try.prog ops Q rest (a.put o.dst (.slice (some ⟨w.heap.size, 0, none⟩) 1 1)) W') : wpList Try.prog ops Q (o :: rest) a w := by
  unfold wpList
  rw [if_pos hw]
  left
  unfold Oper.wp execOp
  simp only [ho, Sem.run_bind, hl, bse1, Result.andThen_ok]
  exact h _ (so_new1 w e) ((Below.refl _ _).alloc (Nat.le_refl _) _)
end
theorem SO.form {e : TypeId} {k : Nat} {ks : Nat → IntKind} {W : World} {base : Nat} {v : Value} {l : List (Nat → Int)} (h : SO e k ks W base v l) (hk : 0 < k) : ∃ q cap, v = .slice q l.length cap := by
  obtain ⟨q, cap, g, off, h1, _⟩ := h.sr hk
  exact ⟨q, cap, h1⟩
theorem SO.less {e : TypeId} {k : Nat} {ks : Nat → IntKind} {W : World} {base base' : Nat} {v : Value} {l : List (Nat → Int)} (h : SO e k ks W base v l) (hb : base' ≤ base) : SO e k ks W base' v l := own_less h hb
theorem so_nil (e : TypeId) (k : Nat) (ks : Nat → IntKind) (W : World) (base : Nat) : SO e k ks W base (.slice none 0 0) [] := World.ownsRow_nil W _ _ _

/-- What entriesOf answers. -/
def EnP (W : World) (base : Nat) (l : List Int) (e : Ending) : Prop :=
  (∃ es v, l = tailN es ∧ es.length ≤ 16 ∧ (∀ x ∈ es, WE x) ∧ e = .returned (.tuple #[v, .bool true]) ∧ SO 107 76 ek W base v es) ∨
  ((∀ es, es.length ≤ 16 → (∀ x ∈ es, WE x) → l ≠ tailN es) ∧ ∃ q n c, e = .returned (.tuple #[.slice q n c, .bool false]))
theorem ents_split : ∀ (done es : List (Nat → Int)) (rest : List Int), done.length ≤ es.length → done.flatMap enN ++ rest = es.flatMap enN → rest = (es.drop done.length).flatMap enN
  | [], es, rest, _, h => by simpa using h
  | d :: done, [], rest, h, _ => by simp at h
  | d :: done, e :: es, rest, h, he => by
    rw [List.flatMap_cons, List.flatMap_cons, List.append_assoc] at he
    obtain ⟨_, h2⟩ := enN_pre he
    simpa using ents_split done es rest (by simpa using h) h2
theorem ent_wf {a b : Int} {r : List Int} {ps : List PV} {more : List Int} {nx : Nat} {h : Nat → Int} (hf : In64 (a :: b :: r)) (hp : Parts r ps more) (e : foldH ps = some (nx, h)) : WE (mkE a b (cellOf r h)) := by
  refine ⟨hf a (by simp), hf b (by simp), ?_⟩
  rw [cE_mkE]
  exact cellOf_wf hp e fun x hx => hf x (by simp [hx])
theorem ent_back {a b : Int} {r : List Int} {ps : List PV} {more : List Int} {nx : Nat} {h : Nat → Int} (hf : In64 (a :: b :: r)) (hp : Parts r ps more) (e : foldH ps = some (nx, h)) : enN (mkE a b (cellOf r h)) ++ more = a :: b :: r := by
  have h2 : Fit (r.getD 2 0) := by
    have hl := hp.len
    rw [List.getD_eq_getElem?_getD, List.getElem?_eq_getElem (by omega)]
    exact hf _ (by simp)
  rw [enN_mkE, List.cons_append, List.cons_append, take_back hp e h2.1 h2.2]

end Go.Proofs.Ytoeilckeebojmaa
namespace Go.Proofs.Ytoeilckeebojmaa
set_option maxRecDepth 100000
open Go.RowKit Go.Shelf
set_option linter.unusedVariables false

/-- Numbers of no note of at most 16 entries. -/
def NoN (l : List Int) : Prop := ∀ N : Nt, WN N → N.es.length ≤ 16 → numsN N ≠ l
theorem noN_of {N : Nt} {k f t : Int} {r : List Int} (h : numsN N = k :: f :: t :: r) : r = (N.ns.length : Int) :: (N.ns ++ midN N.os N.es) := by
  unfold numsN at h
  simp only [List.cons.injEq] at h
  exact h.2.2.2.symm
theorem noN_short {l : List Int} (h : l.length < 3) : NoN l := fun N _ _ e => by
  have := numsN_len N
  rw [e] at this
  omega
theorem noN_a (k f t : Int) : NoN [k, f, t] := fun N _ _ e => by have := noN_of e; simp at this
theorem noN_b {k f t c : Int} {r : List Int} (h : c < 0 ∨ ((r.length / 1 : Nat) : Int) < c) : NoN (k :: f :: t :: c :: r) := fun N _ _ e => by
  have := noN_of e
  simp only [List.cons.injEq] at this
  have h2 := congrArg List.length this.2
  rw [List.length_append] at h2
  rw [Nat.div_one] at h
  omega
theorem noN_m {N : Nt} {k f t : Int} {m : Nat} {r : List Int} (h : numsN N = k :: f :: t :: (m : Int) :: r) : r.drop m = midN N.os N.es := by
  have := noN_of h
  simp only [List.cons.injEq] at this
  have hm : m = N.ns.length := by omega
  rw [this.2, hm]
  exact List.drop_left
theorem noN_c {k f t : Int} {m : Nat} {r : List Int} (h : r.drop m = []) : NoN (k :: f :: t :: (m : Int) :: r) := fun N _ _ e => by
  have := noN_m e
  rw [h] at this
  simp [midN] at this
theorem noN_d {k f t c : Int} {m : Nat} {r r5 : List Int} (h : r.drop m = c :: r5) (hc : c < 0 ∨ ((r5.length / 5 : Nat) : Int) < c) : NoN (k :: f :: t :: (m : Int) :: r) := fun N _ _ e => by
  have := noN_m e
  rw [h] at this
  unfold midN at this
  simp only [List.cons.injEq] at this
  have h2 := congrArg List.length this.2
  rw [List.length_append, ops_bytes] at h2
  omega
theorem noN_e {k f t : Int} {m m2 : Nat} {r r5 : List Int} (h : r.drop m = (m2 : Int) :: r5) (he : ∀ es, es.length ≤ 16 → (∀ x ∈ es, WE x) → r5.drop (m2 * 5) ≠ tailN es) : NoN (k :: f :: t :: (m : Int) :: r) := fun N hN h16 e => by
  have := noN_m e
  rw [h] at this
  unfold midN at this
  simp only [List.cons.injEq] at this
  have hm : m2 = N.os.length := by omega
  refine he N.es h16 hN.es ?_
  rw [this.2, hm]
  exact List.drop_left' (by rw [ops_bytes]; omega)
theorem opsL_take (l : List Int) : ∀ m, 5 * m ≤ l.length → (opsL l m).flatMap opNt = l.take (5 * m)
  | 0, _ => by simp [opsL]
  | m + 1, h => by
    have ih := opsL_take l m (by omega)
    have e1 : opsL l (m + 1) = opsL l m ++ [opAt l m] := by unfold opsL; rw [List.range_succ, List.map_append]; rfl
    have st : ∀ i, 5 * m + i < l.length → l.take (5 * m + i + 1) = l.take (5 * m + i) ++ [l.getD (5 * m + i) 0] := fun i hi => by
      rw [List.take_add_one, List.getD_eq_getElem?_getD, List.getElem?_eq_getElem hi]
      rfl
    have s0 := st 0 (by omega)
    have s1 := st 1 (by omega)
    have s2 := st 2 (by omega)
    have s3 := st 3 (by omega)
    have s4 := st 4 (by omega)
    rw [Nat.add_zero] at s0
    rw [e1, List.flatMap_append, ih, show 5 * (m + 1) = 5 * m + 4 + 1 by omega, s4, s3, s2, s1, s0]
    simp [opNt, opAt]
theorem opsL_flat (m : Nat) (l : List Int) (h : l.length = 5 * m) : (opsL l m).flatMap opNt = l := by
  rw [opsL_take l m (by omega), List.take_of_length_le (by omega)]
theorem yesN {k f t : Int} {m m2 : Nat} {r r5 : List Int} {es : List (Nat → Int)} (hm : m ≤ r.length) (h : r.drop m = (m2 : Int) :: r5) (h5 : m2 * 5 ≤ r5.length) (he : r5.drop (m2 * 5) = tailN es) : numsN ⟨k, f, t, r.take m, opsL (r5.take (m2 * 5)) m2, es⟩ = k :: f :: t :: (m : Int) :: r := by
  have e1 : (r.take m).length = m := by rw [List.length_take]; omega
  unfold numsN midN
  dsimp only
  rw [e1, opsL_len, opsL_flat m2 _ (by rw [List.length_take]; omega), ← he, List.take_append_drop, ← h, List.take_append_drop]
theorem yes_wf {k f t : Int} {m m2 : Nat} {r r5 : List Int} {es : List (Nat → Int)} (hf : In64 (k :: f :: t :: (m : Int) :: r)) (h : r.drop m = (m2 : Int) :: r5) (he : ∀ x ∈ es, WE x) : WN ⟨k, f, t, r.take m, opsL (r5.take (m2 * 5)) m2, es⟩ := by
  refine ⟨hf k (by simp), hf f (by simp), hf t (by simp), fun x hx => hf x (by have := List.mem_of_mem_take hx; simp [this]), fun o ho => ?_, he⟩
  obtain ⟨j, _, rfl⟩ := List.mem_map.1 ho
  intro i _
  unfold opAt
  by_cases c : 5 * j + i < (r5.take (m2 * 5)).length
  · rw [List.getD_eq_getElem?_getD, List.getElem?_eq_getElem c]
    have h1 := List.mem_of_mem_take (List.getElem_mem c)
    have h2 : (r5.take (m2 * 5))[5 * j + i] ∈ r := List.mem_of_mem_drop (i := m) (by rw [h]; exact List.mem_cons_of_mem _ h1)
    exact hf _ (List.mem_cons_of_mem _ (List.mem_cons_of_mem _ (List.mem_cons_of_mem _ (List.mem_cons_of_mem _ h2))))
  · rw [List.getD_eq_getElem?_getD, List.getElem?_eq_none (by omega)]
    exact ⟨by simp, by simp⟩

theorem io_nil (W : World) (base : Nat) : Io W base (.slice none 0 0) [] := World.ownsRow_nil W _ _ _
theorem so_chg {e : TypeId} {k : Nat} {ks : Nat → IntKind} {W W' : World} {base b : Nat} {v : Value} {l : List (Nat → Int)} (h : SO e k ks W base v l) (hc : Chg b W W') (hb : b < base) : SO e k ks W' base v l := by
  refine ⟨h.1, ?_⟩
  rcases h.2 with h2 | ⟨g, cap, cur, h1, h2, hg, h3⟩
  · exact .inl h2
  · exact .inr ⟨g, cap, cur, h1, h2, Blk.chg hg hc (by omega), h3⟩
/-- What read answers. -/
def RdP (W : World) (base : Nat) (l : List Int) (e : Ending) : Prop :=
  (∃ N vn vo ve, numsN N = l ∧ WN N ∧ N.es.length ≤ 16 ∧ e = .returned (.tuple #[ntV N vn vo ve, .bool true]) ∧ Io W base vn N.ns ∧ SO 27 5 k64 W base vo N.os ∧ SO 107 76 ek W base ve N.es) ∨
  (NoN l ∧ ∃ k f t q1 n1 c1 q2 n2 c2 q3 n3 c3, e = .returned (.tuple #[.agg #[.int .i64 k, .int .i64 f, .int .i64 t, .slice q1 n1 c1, .slice q2 n2 c2, .slice q3 n3 c3], .bool false]))
theorem rd_zero (W : World) (base : Nat) (l : List Int) (h : NoN l) : RdP W base l (.returned (.tuple #[.agg #[.int .i64 0, .int .i64 0, .int .i64 0, .slice none 0 0, .slice none 0 0, .slice none 0 0], .bool false])) := .inr ⟨h, _, _, _, _, _, _, _, _, _, _, _, _, rfl⟩
/-- A note's block, written over. -/
theorem blk_six {W : World} {b : Nat} {a0 a1 a2 a3 a4 a5 : Value} {t : TypeId} (h : Blk W b #[a0, a1, a2, a3, a4, a5] t) (b0 b1 b2 b3 b4 b5 : Value) :
    Blk ((((((W.setCell ⟨b, 0, none⟩ b0).setCell ⟨b, 1, none⟩ b1).setCell ⟨b, 2, none⟩ b2).setCell ⟨b, 3, none⟩ b3).setCell ⟨b, 4, none⟩ b4).setCell ⟨b, 5, none⟩ b5) b #[b0, b1, b2, b3, b4, b5] t ∧
    Chg b W ((((((W.setCell ⟨b, 0, none⟩ b0).setCell ⟨b, 1, none⟩ b1).setCell ⟨b, 2, none⟩ b2).setCell ⟨b, 3, none⟩ b3).setCell ⟨b, 4, none⟩ b4).setCell ⟨b, 5, none⟩ b5) :=
  ⟨(((((h.set 0 b0).set 1 b1).set 2 b2).set 3 b3).set 4 b4).set 5 b5, (((((chg_set _ _ _ _).trans (chg_set _ _ _ _)).trans (chg_set _ _ _ _)).trans (chg_set _ _ _ _)).trans (chg_set _ _ _ _)).trans (chg_set _ _ _ _)⟩
structure Six (W : World) (b : Nat) (a0 a1 a2 a3 a4 a5 : Value) : Prop where
  c0 : W.cell? ⟨b, 0, none⟩ = some a0
  c1 : W.cell? ⟨b, 1, none⟩ = some a1
  c2 : W.cell? ⟨b, 2, none⟩ = some a2
  c3 : W.cell? ⟨b, 3, none⟩ = some a3
  c4 : W.cell? ⟨b, 4, none⟩ = some a4
  c5 : W.cell? ⟨b, 5, none⟩ = some a5
  f0 : W.frozen? ⟨b, 0, none⟩ = false
  f1 : W.frozen? ⟨b, 1, none⟩ = false
  f2 : W.frozen? ⟨b, 2, none⟩ = false
  f3 : W.frozen? ⟨b, 3, none⟩ = false
  f4 : W.frozen? ⟨b, 4, none⟩ = false
  f5 : W.frozen? ⟨b, 5, none⟩ = false
theorem six {W : World} {b : Nat} {a0 a1 a2 a3 a4 a5 : Value} {t : TypeId} (h : Blk W b #[a0, a1, a2, a3, a4, a5] t) : Six W b a0 a1 a2 a3 a4 a5 :=
  ⟨h.at rfl, h.at rfl, h.at rfl, h.at rfl, h.at rfl, h.at rfl, h.frozen 0, h.frozen 1, h.frozen 2, h.frozen 3, h.frozen 4, h.frozen 5⟩
end Go.Proofs.Ytoeilckeebojmaa
namespace Go.Proofs.Ytoeilckeebojmaa
set_option maxRecDepth 100000
open Go.RowKit Go.Shelf
set_option linter.unusedVariables false

/-- Bytes that are just one frame. -/
def oneFr (b : List Nat) : Prop := insOK b = true ∧ 8 + (insB b).length = b.length
theorem oneFr_frm {b : List Nat} (hb : Byt b) (h : oneFr b) : frm (insB b) = b := by
  obtain ⟨h1, h2⟩ := h
  have h3 := (insOK_iff b).1 h1
  have h4 := (ins_of hb h3.1 h3.2.1 h3.2.2.1).2 h1
  rw [h4, ← insB_len h1, h2, List.take_length]
theorem oneFr_of {N : Nt} (g : GoodN N) : oneFr (bysN N) ∧ insB (bysN N) = numsB (numsN N) := by
  have := ins_frm (numsB (numsN N)) [] (good_fits g)
  rw [List.append_nil] at this
  unfold bysN oneFr
  exact ⟨⟨this.1, by rw [this.2, frm_len]⟩, this.2⟩
/-- No note in form has these bytes. -/
def NoB (b : List Nat) : Prop := ∀ N, WN N → GoodN N → bysN N ≠ b
theorem good_in {N : Nt} (hW : WN N) (g : GoodN N) : In64 (numsN N) := by
  have := fitK_le g.fit
  exact numsN_fit hW (by omega) (by omega) (by omega)
theorem noB_nus {b : List Nat} (h : nus (insB b) = none) : NoB b := fun N hW g e => by
  have := (oneFr_of g).2
  rw [e] at this
  rw [this, nus_put _ (good_in hW g)] at h
  cases h
theorem noB_l {b : List Nat} {l : List Int} (h : nus (insB b) = some l) {N : Nt} (hW : WN N) (g : GoodN N) (e : bysN N = b) : numsN N = l := by
  have := (oneFr_of g).2
  rw [e] at this
  rw [this, nus_put _ (good_in hW g)] at h
  exact Option.some.inj h
theorem noB_read {b : List Nat} {l : List Int} (h : nus (insB b) = some l) (hn : NoN l) : NoB b := fun N hW g e => hn N hW (by have := fitK_le g.fit; omega) (noB_l h hW g e)
theorem noB_form {b : List Nat} {l : List Int} (h : nus (insB b) = some l) {N : Nt} (hN : numsN N = l) (hW : WN N) (hg : ¬ GoodN N) : NoB b := fun M hM g e => hg (g.same (numsN_inj hM hW ((noB_l h hM g e).trans hN.symm)))
theorem yesB {b : List Nat} (hb : Byt b) (h1 : oneFr b) {l : List Int} (h : nus (insB b) = some l) {N : Nt} (hN : numsN N = l) : bysN N = b := by
  unfold bysN
  rw [hN, (nus_back _ (by unfold insB; exact (hb.drop 8).take _) l h).1, oneFr_frm hb h1]

abbrev zNt : Array Value := #[.int .i64 0, .int .i64 0, .int .i64 0, .slice none 0 0, .slice none 0 0, .slice none 0 0]
/-- What Decode answers. -/
def DcP (W : World) (base : Nat) (b : List Nat) (e : Ending) : Prop :=
  (¬ oneFr b ∧ e = .returned (.tuple #[.agg zNt, Err 3])) ∨ (oneFr b ∧ NoB b ∧ e = .returned (.tuple #[.agg zNt, Err 4])) ∨
  (oneFr b ∧ ∃ N vn vo ve, WN N ∧ GoodN N ∧ bysN N = b ∧ e = .returned (.tuple #[ntV N vn vo ve, .nilIface]) ∧ Io W base vn N.ns ∧ SO 27 5 k64 W base vo N.os ∧ SO 107 76 ek W base ve N.es)

end Go.Proofs.Ytoeilckeebojmaa
