/-
  note.Encode.
  Parts of slices of numbers; note.placeOf, counted.
  Slices of structs that the call makes and writes; note.opsOf.
  note.entryOf.
  note.entriesOf.
-/
import Derived.Test.YteffpgodookebaaGreatPk55
import Derived.Test.YteffpgodookebaaGreatPk23
namespace Go.Proofs.YteffpgodookebaaGreat
set_option maxRecDepth 100000
open Go.RowKit Go.Shelf
set_option linter.unusedVariables false

end Go.Proofs.YteffpgodookebaaGreat
namespace Go.Proofs.YteffpgodookebaaGreat
set_option maxRecDepth 100000
open Go.RowKit Go.Shelf
set_option linter.unusedVariables false

theorem info_place (a b : Int) : (Tryz.prog.info? 89).map (·.size) = some (#[Value.int .i64 a, .int .i64 b]).size := by kernel_rfl
theorem placeOf_any (v : Value) (l : List Int) (w : World) (hv : Is w v l) (h2 : 2 ≤ l.length) :
    Calls Tryz.prog 108 #[v] w fun e w' => e = .returned (.agg #[.int .i64 (l.getD 0 0), .int .i64 (l.getD 1 0)]) ∧ Below w.heap.size w w' := by
  obtain ⟨q, cap, e⟩ := hv.form
  subst e
  obtain ⟨g, off, rfl, hg, hr⟩ := hv.at (by omega)
  have hc := hv.len
  have hA := ab_alloc (Below.refl w.heap.size w) (.cells #[.int .i64 0, .int .i64 0] 89)
  have c0 : (w.alloc (.cells #[.int .i64 0, .int .i64 0] 89)).cell? ⟨g, off, none⟩ = some (.int .i64 (l.getD 0 0)) := (hA.cell (p := ⟨g, off, none⟩) hg).trans (hr 0 _ (by rw [List.getD_eq_getElem?_getD, List.getElem?_eq_getElem (by omega)]; rfl))
  have c1 : (w.alloc (.cells #[.int .i64 0, .int .i64 0] 89)).cell? ⟨g, off + 1, none⟩ = some (.int .i64 (l.getD 1 0)) := (hA.cell (p := ⟨g, off + 1, none⟩) hg).trans (hr 1 _ (by rw [List.getD_eq_getElem?_getD, List.getElem?_eq_getElem (by omega)]; rfl))
  have hB := Blk.new w #[.int .i64 0, .int .i64 0] 89
  generalize l.getD 0 0 = a0 at *
  generalize l.getD 1 0 = a1 at *
  generalize l.length = n at *
  clear hr hv
  go_enter Tryz.func108, Tryz.ntmps108
  go_upto_region 1 with fail
  go_region
  go_wp2_with fail
  exact bodyPost_ret (results_cell_row rfl _ _ _ 89 _ (0, 0) _ rfl (Blk.new w #[.int .i64 a0, .int .i64 a1] 89).drew Tryz.underlying89 rfl (info_place _ _)) rfl ⟨rfl, ab_drew (ab_alloc (Below.refl _ _) _)⟩

def CtP (W : World) (c : Int) (s : Nat) (r : List Int) (e : Ending) : Prop :=
  ((c < 0 ∨ ((r.length / s : Nat) : Int) < c) → e = .returned (.tuple #[.slice none 0 0, .slice none 0 0, .bool false])) ∧
  (∀ m : Nat, c = (m : Int) → m ≤ r.length / s → ∃ v1 v2, e = .returned (.tuple #[v1, v2, .bool true]) ∧ Is W v1 (r.take (m * s)) ∧ Is W v2 (r.drop (m * s)))

end Go.Proofs.YteffpgodookebaaGreat
namespace Go.Proofs.YteffpgodookebaaGreat
set_option maxRecDepth 100000
open Go.RowKit Go.Shelf
set_option linter.unusedVariables false

/-- Cells written one behind the other. -/
def setL : List Value → Nat → List Value → List Value
  | xs, _, [] => xs
  | xs, o, c :: cs => setL (xs.set o c) (o + 1) cs
theorem setL_mid : ∀ (C A P B : List Value), A.length = C.length → setL (P ++ A ++ B) P.length C = P ++ C ++ B
  | [], A, P, B, h => by
    have : A = [] := List.eq_nil_of_length_eq_zero (by simpa using h)
    subst this
    rfl
  | c :: C, [], P, B, h => by simp at h
  | c :: C, a :: A, P, B, h => by
    unfold setL
    have e : (P ++ a :: A ++ B).set P.length c = (P ++ [c]) ++ A ++ B := by simp
    have := setL_mid C A (P ++ [c]) B (by simpa using h)
    rw [List.length_append, List.length_singleton] at this
    rw [e, this]
    simp
theorem flatA_setL (k : Nat) (ks : Nat → IntKind) (L : List (Nat → Int)) (m : Nat) (c : Nat → Int) (hm : m < L.length) : setL (flatA k ks L) (m * k) (AG k ks c).toList = flatA k ks (L.set m c) := by
  have e1 : L = L.take m ++ [L[m]] ++ L.drop (m + 1) := by simp
  have e2 : L.set m c = L.take m ++ [c] ++ L.drop (m + 1) := by
    rw [List.set_eq_take_append_cons_drop, if_pos hm]; simp
  have one : ∀ x, flatA k ks [x] = (AG k ks x).toList := fun x => by simp [flatA]
  rw [e2, ← flatA_append, ← flatA_append, one]
  conv => lhs; rw [e1, ← flatA_append, ← flatA_append, one]
  have hl : (flatA k ks (L.take m)).length = m * k := by rw [flatA_len, List.length_take, Nat.min_eq_left (by omega)]
  rw [← hl]
  exact setL_mid _ _ _ _ (by rw [AG_len, AG_len])
theorem own_setL {e size base n g cap : Nat} : ∀ (cs : List Value) (o : Nat) (W : World) (xs : List Value), W.ownsRow base e size (.slice (some ⟨g, 0, none⟩) n cap) n xs →
    (W.setCells g o cs).ownsRow base e size (.slice (some ⟨g, 0, none⟩) n cap) n (setL xs o cs) ∧ Chg g W (W.setCells g o cs)
  | [], o, W, xs, h => ⟨h, Chg.refl _ _⟩
  | c :: cs, o, W, xs, h => by
    have h1 := (h.stored o c).1
    obtain ⟨h2, h3⟩ := own_setL cs (o + 1) _ _ h1
    exact ⟨h2, (chg_set _ _ _ _).trans h3⟩
theorem so_stored {e : TypeId} {k : Nat} {ks : Nat → IntKind} {W : World} {base n g cap m : Nat} {L : List (Nat → Int)} (hk : 0 < k) (h : W.ownsRow base e k (.slice (some ⟨g, 0, none⟩) n cap) n (flatA k ks L)) (hm : m < n) (c : Nat → Int) :
    (W.setCells g (m * k) (AG k ks c).toList).ownsRow base e k (.slice (some ⟨g, 0, none⟩) n cap) n (flatA k ks (L.set m c)) ∧ Chg g W (W.setCells g (m * k) (AG k ks c).toList) ∧ W.there g (m * k) (AG k ks c).size := by
  have hlen : L.length = n := by have := h.1; rw [flatA_len] at this; exact Nat.eq_of_mul_eq_mul_right hk this
  obtain ⟨h1, h2⟩ := own_setL (AG k ks c).toList (m * k) W _ h
  rw [flatA_setL k ks L m c (by omega)] at h1
  refine ⟨h1, h2, fun j hj => ⟨?_, h.frozenAt _⟩⟩
  obtain ⟨_, _, e, _, _, _, _, hc⟩ := own_cells h (by simp)
  cases e
  rw [AG_size] at hj
  rw [hc _ _ (flatA_at k ks L m _ (List.getElem?_eq_getElem (by omega)) j _ (AG_at k ks _ j hj))]
  rfl
theorem made_A (k : Nat) (ks : Nat → IntKind) (hk : 0 < k) (n : Nat) : (madeCells (Value.agg (AG k ks zc)).cells (n * k)).toList = flatA k ks (List.replicate n zc) := by
  apply List.ext_getElem?
  intro j
  by_cases hj : j < n * k
  · have hm : j % k < k := Nat.mod_lt _ hk
    have hd : j / k < n := Nat.div_lt_of_lt_mul (by rwa [Nat.mul_comm])
    have := flatA_at k ks (List.replicate n zc) (j / k) zc (by simp [hd]) (j % k) _ (AG_at k ks zc _ hm)
    rw [Nat.mul_comm, Nat.div_add_mod] at this
    rw [this]
    simp [madeCells, Value.cells, hj, AG, hm]
  · rw [List.getElem?_eq_none (by simp [madeCells]; omega), List.getElem?_eq_none (by rw [flatA_len, List.length_replicate]; omega)]
section
variable {ops : Array Oper} {rest : List Oper} {o : Oper} {a : Act} {w : World} {Q : Exit → Act → World → Prop}
/-- 'make' of so many structs. -/
theorem mk_so (hw : Region.wanted o (yielded ops a.tmps) = true) {t e : TypeId} {k bytes : Nat} {ks : Nat → IntKind} (hk : 0 < k) (ht : Tryz.prog.underlying t = some (.slice e)) (hinf : (Tryz.prog.info? e).map (fun i => (i.zero, i.size, i.bytes)) = some (some (.agg (AG k ks zc)), k, bytes))
    {x y : Operand} (ho : o.op = .makeSlice t x y) {c : Nat} (hx : a.eval x = .int .i64 (c : Int)) (hy : a.eval y = .int .i64 (c : Int)) (hb : bytes * c ≤ 281474976710656) (hc : c ≤ 1000000000)
    (h : ∀ W', W'.ownsRow w.heap.size e k (.slice (some ⟨w.heap.size, 0, none⟩) c c) c (flatA k ks (List.replicate c zc)) → Below w.heap.size w W' → wpList Tryz.prog ops Q rest (a.put o.dst (.slice (some ⟨w.heap.size, 0, none⟩) c c)) W') : wpList Tryz.prog ops Q (o :: rest) a w := by
  obtain ⟨i, hi, hz0, hz1, hz2⟩ := info_parts hinf
  obtain ⟨w', hr, ho', hg⟩ := run_make_full (P := Tryz.prog) w w.heap.size t e i _ k ht hi hz0 hz1 .i64 .i64 c (by rw [hz2]; exact hb) (by unfold maxLen; omega) (Nat.le_refl _)
  rw [made_A k ks hk] at ho'
  unfold wpList
  rw [if_pos hw]
  left
  unfold Oper.wp execOp
  simp only [ho, Sem.run_bind, hx, hy, hr, Result.andThen_ok]
  exact h _ ho' (below_grown (Below.refl _ _) hg)
/-- A struct into the middle of an own row: at one operation. -/
theorem soW {K : Act → World → Prop} (d : Option Tmp) (hd : o.dst = d) {e : TypeId} {k : Nat} {ks : Nat → IntKind} (hk : 0 < k) (hi : (Tryz.prog.info? e).map (·.size) = some k) {x y : Operand} (ho : o.op = .store e x y) {base n g cap m : Nat} {L : List (Nat → Int)}
    (h : w.ownsRow base e k (.slice (some ⟨g, 0, none⟩) n cap) n (flatA k ks L)) (hm : m < n) (c : Nat → Int) (hx : a.eval x = .pointer (some ⟨g, m * k, none⟩)) (hy : a.eval y = .agg (AG k ks c))
    (hK : ∀ W', W'.ownsRow base e k (.slice (some ⟨g, 0, none⟩) n cap) n (flatA k ks (L.set m c)) → Chg g w W' → K (a.put d undef) W') : o.wp Tryz.prog a w K Q := by
  subst hd
  obtain ⟨h1, h2, h3⟩ := so_stored hk h hm c
  exact wp_store_mid e x y ho g (m * k) (AG k ks c) hx hy h3 (by rw [AG_size]; exact hi) (by rw [Array.all_eq_true']; intro x hx; exact AG_one k ks c x (by simpa using hx)) (hK _ h1 h2)
end

theorem info_opz : (Tryz.prog.info? 49).map (·.size) = some 5 := by kernel_rfl
/-- Operations of numbers. -/
def opAt (l : List Int) (j : Nat) : Nat → Int := fun i => l.getD (5 * j + i) 0
def opsL (l : List Int) (m : Nat) : List (Nat → Int) := (List.range m).map (opAt l)
theorem opsL_len (l : List Int) (m : Nat) : (opsL l m).length = m := by simp [opsL]
/-- As far as they are written. -/
def opsU (l : List Int) (m j : Nat) : List (Nat → Int) := opsL l j ++ List.replicate (m - j) zc
theorem opsU_next (l : List Int) (m j : Nat) (h : j < m) : (opsU l m j).set j (opAt l j) = opsU l m (j + 1) := by
  obtain ⟨d, rfl⟩ : ∃ d, m = j + d + 1 := ⟨m - j - 1, by omega⟩
  unfold opsU
  rw [List.set_append_right _ _ (by simp [opsL]), opsL_len, Nat.sub_self, show j + d + 1 - j = d + 1 by omega, show j + d + 1 - (j + 1) = d by omega, List.replicate_succ, List.set_cons_zero]
  unfold opsL
  rw [List.range_succ, List.map_append, List.append_assoc]
  rfl
theorem opsU_end (l : List Int) (m : Nat) : opsU l m m = opsL l m := by simp [opsU]

end Go.Proofs.YteffpgodookebaaGreat
namespace Go.Proofs.YteffpgodookebaaGreat
set_option maxRecDepth 100000
open Go.RowKit Go.Shelf
set_option linter.unusedVariables false

def mkE (a b : Int) (c : Nat → Int) : Nat → Int := fun i => if i = 0 then a else if i = 1 then b else c (i - 2)
theorem built_ent (a b : Int) (c : Nat → Int) : Tryz.prog.built 144 [(0, .agg #[.int .i64 a, .int .i64 b]), (1, .agg (CA c))] = some (EA (mkE a b c)) := by kernel_rfl
theorem zc_ent : Tryz.zeroCells144 = EA zc := by kernel_rfl
theorem built_ent0 : Tryz.prog.built 144 [] = some (EA zc) := by kernel_rfl
theorem cE_mkE (a b : Int) (c : Nat → Int) : cE (mkE a b c) = c := by
  funext i
  unfold cE mkE
  rw [if_neg (by omega), if_neg (by omega), Nat.add_sub_cancel_left]
theorem enN_mkE (a b : Int) (c : Nat → Int) : enN (mkE a b c) = a :: b :: numsF c := by unfold enN; rw [cE_mkE]; rfl
theorem EA_all (c : Nat → Int) : (EA c).all (·.oneCell') = true := by rw [Array.all_eq_true']; intro x hx; exact AG_one 76 ek c x (by simpa using hx)

/-- Numbers that begin with no entry. -/
def NoE (l : List Int) : Prop := l.length < 2 ∨ NoT (l.drop 2)
theorem noT_nums {l : List Int} (h : NoT l) {c : Nat → Int} (hc : Wf c) (more : List Int) : l ≠ numsF c ++ more := by
  intro e
  obtain ⟨hp, nx, g, hf, -⟩ := take_nums c hc more
  rw [← e] at hp
  rcases h with h | ⟨h1, h2⟩ | ⟨ps, more', h1, h2⟩
  · have := hp.len; omega
  · have h3 := congrArg List.length hp.rest
    rw [List.length_drop, List.length_append, flatP_len] at h3
    have h4 := hp.nine
    omega
  · have h3 : ps.length = (pp (Go.Proofs.YteffpgodookebaaGreat.hf c) 65).length := by have := h1.nine.symm.trans hp.nine; omega
    have h4 := h1.rest.symm.trans hp.rest
    have h5 := (List.append_inj h4 (by rw [flatP_len, flatP_len, h3])).1
    rw [flatP_inj _ _ h5, hf] at h2
    cases h2
theorem noE_nums {l : List Int} (h : NoE l) {e : Nat → Int} (he : WE e) (more : List Int) : l ≠ enN e ++ more := by
  intro eq
  rcases h with h | h
  · rw [eq] at h; simp [enN] at h; omega
  · refine noT_nums h he.2.2 more ?_
    rw [eq]
    simp [enN]
/-- Or with one. -/
theorem entry_cases (l : List Int) : NoE l ∨ ∃ a b r ps more nx h, l = a :: b :: r ∧ Parts r ps more ∧ foldH ps = some (nx, h) := by
  match l with
  | [] => exact .inl (.inl (by simp))
  | [_] => exact .inl (.inl (by simp))
  | a :: b :: r =>
    rcases take_cases r with h | ⟨ps, more, nx, h, h1, h2⟩
    · exact .inl (.inr h)
    · exact .inr ⟨a, b, r, ps, more, nx, h, rfl, h1, h2⟩

end Go.Proofs.YteffpgodookebaaGreat
namespace Go.Proofs.YteffpgodookebaaGreat
set_option maxRecDepth 100000
open Go.RowKit Go.Shelf
set_option linter.unusedVariables false

section
variable {ops : Array Oper} {rest : List Oper} {o : Oper} {a : Act} {w : World} {Q : Exit → Act → World → Prop}
/-- append of structs onto an own slice of them. -/
theorem app_s (A : World) (hw : Region.wanted o (yielded ops a.tmps) = true) {s x : Operand} {t e : TypeId} {k bytes : Nat} {ks : Nat → IntKind} (ho : o.op = .call { callee := .builtin .append, args := #[s, x], argTypes := #[t, t] })
    (hk : 0 < k) (ht : Tryz.prog.underlying t = some (.slice e)) (hinf : (Tryz.prog.info? e).map (fun i => (i.zero, i.size, i.bytes)) = some (some (.agg (AG k ks zc)), k, bytes))
    {v vx : Value} {l m : List (Nat → Int)} (hs : a.eval s = v) (hown : SO e k ks w A.heap.size v l) (hx : a.eval x = vx) (hsl : SR k ks w vx m) (h63 : l.length + m.length ≤ 1000000000) (hbytes : (l.length + m.length) * bytes ≤ 140737488355328) (hA : Below A.heap.size A w)
    (h : ∀ v' w', SO e k ks w' A.heap.size v' (l ++ m) → Below A.heap.size A w' → w.grownBy w' v.ownBlock → wpList Tryz.prog ops Q rest (a.put o.dst v') w') : wpList Tryz.prog ops Q (o :: rest) a w := by
  obtain ⟨q, cap, rfl, hq, hsrc⟩ := hsl.src hk
  refine app_ownG A hw ho ht hinf (by show (AG k ks zc).size = k; exact AG_size _ _ _) hk hs hown (flatA k ks m) hx hq (flatA_len k ks m) hsrc (flatA_one k ks m) (by unfold maxLen; omega) hbytes hA fun v' w' h1 h2 h3 h4 => ?_
  rw [flatA_append] at h1
  exact h v' w' (so_of h1 hk) h3 h4
theorem bse1 (e : Nat → Int) (w : World) : (Instr.buildSlice 43 1 #[(0, .agg (EA e))]).run Tryz.prog w = .ok (.slice (some ⟨w.heap.size, 0, none⟩) 1 1) (w.alloc (.cells (EA e) 144)) := by kernel_rfl
theorem so_new1 (w : World) (e : Nat → Int) : SO 144 76 ek (w.alloc (.cells (EA e) 144)) w.heap.size (.slice (some ⟨w.heap.size, 0, none⟩) 1 1) [e] := by
  have hf : flatA 76 ek [e] = (EA e).toList := by simp [flatA]
  refine ⟨flatA_len 76 ek [e], .inr ⟨w.heap.size, 1, EA e, rfl, Nat.le_refl _, by show (w.heap.push _)[w.heap.size]? = _; simp, by simp, by unfold maxLen; omega, ?_, ?_⟩⟩
  · simp [AG_size]
  · rw [hf]; exact List.take_of_length_le (by rw [AG_len]; simp)
theorem bs_e1 (hw : Region.wanted o (yielded ops a.tmps) = true) {parts : Array (Nat × Operand)} (ho : o.op = .buildSlice 43 1 parts) (e : Nat → Int) (hl : parts.map (fun (i, x) => (i, a.eval x)) = #[(0, .agg (EA e))])
    (h : ∀ W', SO 144 76 ek W' w.heap.size (.slice (some ⟨w.heap.size, 0, none⟩) 1 1) [e] → Below w.heap.size w W' → wpList Tryz.prog ops Q rest (a.put o.dst (.slice (some ⟨w.heap.size, 0, none⟩) 1 1)) W') : wpList Tryz.prog ops Q (o :: rest) a w := by
  unfold wpList
  rw [if_pos hw]
  left
  unfold Oper.wp execOp
  simp only [ho, Sem.run_bind, hl, bse1, Result.andThen_ok]
  exact h _ (so_new1 w e) ((Below.refl _ _).alloc (Nat.le_refl _) _)
end
theorem SO.form {e : TypeId} {k : Nat} {ks : Nat → IntKind} {W : World} {base : Nat} {v : Value} {l : List (Nat → Int)} (h : SO e k ks W base v l) (hk : 0 < k) : ∃ q cap, v = .slice q l.length cap := by
  obtain ⟨q, cap, g, off, h1, _⟩ := h.sr hk
  exact ⟨q, cap, h1⟩
theorem SO.less {e : TypeId} {k : Nat} {ks : Nat → IntKind} {W : World} {base base' : Nat} {v : Value} {l : List (Nat → Int)} (h : SO e k ks W base v l) (hb : base' ≤ base) : SO e k ks W base' v l := own_less h hb
theorem so_nil (e : TypeId) (k : Nat) (ks : Nat → IntKind) (W : World) (base : Nat) : SO e k ks W base (.slice none 0 0) [] := World.ownsRow_nil W _ _ _

/-- What entriesOf answers. -/
def EnP (W : World) (base : Nat) (l : List Int) (e : Ending) : Prop :=
  (∃ es v, l = tailN es ∧ es.length ≤ 16 ∧ (∀ x ∈ es, WE x) ∧ e = .returned (.tuple #[v, .bool true]) ∧ SO 144 76 ek W base v es) ∨
  ((∀ es, es.length ≤ 16 → (∀ x ∈ es, WE x) → l ≠ tailN es) ∧ ∃ q n c, e = .returned (.tuple #[.slice q n c, .bool false]))
theorem ents_split : ∀ (done es : List (Nat → Int)) (rest : List Int), done.length ≤ es.length → done.flatMap enN ++ rest = es.flatMap enN → rest = (es.drop done.length).flatMap enN
  | [], es, rest, _, h => by simpa using h
  | d :: done, [], rest, h, _ => by simp at h
  | d :: done, e :: es, rest, h, he => by
    rw [List.flatMap_cons, List.flatMap_cons, List.append_assoc] at he
    obtain ⟨_, h2⟩ := enN_pre he
    simpa using ents_split done es rest (by simpa using h) h2
theorem ent_wf {a b : Int} {r : List Int} {ps : List PV} {more : List Int} {nx : Nat} {h : Nat → Int} (hf : In64 (a :: b :: r)) (hp : Parts r ps more) (e : foldH ps = some (nx, h)) : WE (mkE a b (cellOf r h)) := by
  refine ⟨hf a (by simp), hf b (by simp), ?_⟩
  rw [cE_mkE]
  exact cellOf_wf hp e fun x hx => hf x (by simp [hx])
theorem ent_back {a b : Int} {r : List Int} {ps : List PV} {more : List Int} {nx : Nat} {h : Nat → Int} (hf : In64 (a :: b :: r)) (hp : Parts r ps more) (e : foldH ps = some (nx, h)) : enN (mkE a b (cellOf r h)) ++ more = a :: b :: r := by
  have h2 : Fit (r.getD 2 0) := by
    have hl := hp.len
    rw [List.getD_eq_getElem?_getD, List.getElem?_eq_getElem (by omega)]
    exact hf _ (by simp)
  rw [enN_mkE, List.cons_append, List.cons_append, take_back hp e h2.1 h2.2]

end Go.Proofs.YteffpgodookebaaGreat
