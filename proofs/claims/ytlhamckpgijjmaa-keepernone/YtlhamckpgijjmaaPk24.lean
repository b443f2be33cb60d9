/-
  note.entryOf.
  note.entriesOf.
  What comes in, where a struct holds numbers and slices of them. Nothing here names the program.
-/
import Derived.Test.YtlhamckpgijjmaaPk23
import Derived.Test.YtlhamckpgijjmaaPk20
namespace Go.Proofs.Ytlhamckpgijjmaa
open Go.RowKit Go.Shelf
set_option linter.unusedVariables false

def mkE (a b : Int) (c : Nat → Int) : Nat → Int := fun i => if i = 0 then a else if i = 1 then b else c (i - 2)
theorem built_ent (a b : Int) (c : Nat → Int) : Try.prog.built 97 [(0, .agg #[.int .i64 a, .int .i64 b]), (1, .agg (CA c))] = some (EA (mkE a b c)) := by kernel_rfl
theorem zc_ent : Try.zeroCells97 = EA zc := by kernel_rfl
theorem built_ent0 : Try.prog.built 97 [] = some (EA zc) := by kernel_rfl
theorem cE_mkE (a b : Int) (c : Nat → Int) : cE (mkE a b c) = c := by
  funext i
  unfold cE mkE
  rw [if_neg (by omega), if_neg (by omega), Nat.add_sub_cancel_left]
theorem enN_mkE (a b : Int) (c : Nat → Int) : enN (mkE a b c) = a :: b :: numsF c := by unfold enN; rw [cE_mkE]; rfl
theorem EA_all (c : Nat → Int) : (EA c).all (·.oneCell') = true := by rw [Array.all_eq_true']; intro x hx; exact AG_one 76 ek c x (by simpa using hx)

/-- Numbers that begin with no entry. -/
def NoE (l : List Int) : Prop := l.length < 2 ∨ NoT (l.drop 2)
theorem noT_nums {l : List Int} (h : NoT l) {c : Nat → Int} (hc : Wf c) (more : List Int) : l ≠ numsF c ++ more := by
  intro e
  obtain ⟨hp, nx, g, hf, -⟩ := take_nums c hc more
  rw [← e] at hp
  rcases h with h | ⟨h1, h2⟩ | ⟨ps, more', h1, h2⟩
  · have := hp.len; omega
  · have h3 := congrArg List.length hp.rest
    rw [List.length_drop, List.length_append, flatP_len] at h3
    have h4 := hp.nine
    omega
  · have h3 : ps.length = (pp (Go.Proofs.Ytlhamckpgijjmaa.hf c) 65).length := by have := h1.nine.symm.trans hp.nine; omega
    have h4 := h1.rest.symm.trans hp.rest
    have h5 := (List.append_inj h4 (by rw [flatP_len, flatP_len, h3])).1
    rw [flatP_inj _ _ h5, hf] at h2
    cases h2
theorem noE_nums {l : List Int} (h : NoE l) {e : Nat → Int} (he : WE e) (more : List Int) : l ≠ enN e ++ more := by
  intro eq
  rcases h with h | h
  · rw [eq] at h; simp [enN] at h; omega
  · refine noT_nums h he.2.2 more ?_
    rw [eq]
    simp [enN]
/-- Or with one. -/
theorem entry_cases (l : List Int) : NoE l ∨ ∃ a b r ps more nx h, l = a :: b :: r ∧ Parts r ps more ∧ foldH ps = some (nx, h) := by
  match l with
  | [] => exact .inl (.inl (by simp))
  | [_] => exact .inl (.inl (by simp))
  | a :: b :: r =>
    rcases take_cases r with h | ⟨ps, more, nx, h, h1, h2⟩
    · exact .inl (.inr h)
    · exact .inr ⟨a, b, r, ps, more, nx, h, rfl, h1, h2⟩

end Go.Proofs.Ytlhamckpgijjmaa
namespace Go.Proofs.Ytlhamckpgijjmaa
open Go.RowKit Go.Shelf
set_option linter.unusedVariables false

section
variable {ops : Array Oper} {rest : List Oper} {o : Oper} {a : Act} {w : World} {Q : Exit → Act → World → Prop}
/-- append of structs onto an own slice of them. -/
theorem app_s (A : World) (hw : Region.wanted o (yielded ops a.tmps) = true) {s x : Operand} {t e : TypeId} {k bytes : Nat} {ks : Nat → IntKind} (ho : o.op = .call { callee := .builtin .append, args := #[s, x], argTypes := #[t, t] })
    (hk : 0 < k) (ht : Try.prog.underlying t = some (.slice e)) (hinf : (Try.prog.info? e).map (fun i => (i.zero, i.size, i.bytes)) = some (some (.agg (AG k ks zc)), k, bytes))
    {v vx : Value} {l m : List (Nat → Int)} (hs : a.eval s = v) (hown : SO e k ks w A.heap.size v l) (hx : a.eval x = vx) (hsl : SR k ks w vx m) (h63 : l.length + m.length ≤ 1000000000) (hbytes : (l.length + m.length) * bytes ≤ 140737488355328) (hA : Below A.heap.size A w)
    (h : ∀ v' w', SO e k ks w' A.heap.size v' (l ++ m) → Below A.heap.size A w' → w.grownBy w' v.ownBlock → wpList Try.prog ops Q rest (a.put o.dst v') w') : wpList Try.prog ops Q (o :: rest) a w := by
  obtain ⟨q, cap, rfl, hq, hsrc⟩ := hsl.src hk
  refine app_ownG A hw ho ht hinf (by show (AG k ks zc).size = k; exact AG_size _ _ _) hk hs hown (flatA k ks m) hx hq (flatA_len k ks m) hsrc (flatA_one k ks m) (by unfold maxLen; omega) hbytes hA fun v' w' h1 h2 h3 h4 => ?_
  rw [flatA_append] at h1
  exact h v' w' (so_of h1 hk) h3 h4
theorem bse1 (e : Nat → Int) (w : World) : (Instr.buildSlice 33 1 #[(0, .agg (EA e))]).run Try.prog w = .ok (.slice (some ⟨w.heap.size, 0, none⟩) 1 1) (w.alloc (.cells (EA e) 97)) := by kernel_rfl
theorem so_new1 (w : World) (e : Nat → Int) : SO 97 76 ek (w.alloc (.cells (EA e) 97)) w.heap.size (.slice (some ⟨w.heap.size, 0, none⟩) 1 1) [e] := by
  have hf : flatA 76 ek [e] = (EA e).toList := by simp [flatA]
  refine ⟨flatA_len 76 ek [e], .inr ⟨w.heap.size, 1, EA e, rfl, Nat.le_refl _, by show (w.heap.push _)[w.heap.size]? = _; simp, by simp, by unfold maxLen; omega, ?_, ?_⟩⟩
  · simp [AG_size]
  · rw [hf]; exact List.take_of_length_le (by rw [AG_len]; simp)
theorem bs_e1 (hw : Region.wanted o (yielded ops a.tmps) = true) {parts : Array (Nat × Operand)} (ho : o.op = .buildSlice 33 1 parts) (e : Nat → Int) (hl : parts.map (fun (i, x) => (i, a.eval x)) = #[(0, .agg (EA e))])
    (h : ∀ W', SO 97 76 ek W' w.heap.size (.slice (some ⟨w.heap.size, 0, none⟩) 1 1) [e] → Below w.heap.size w W' → wpList Try.prog ops Q rest (a.put o.dst (.slice (some ⟨w.heap.size, 0, none⟩) 1 1)) W') : wpList Try.prog ops Q (o :: rest) a w := by
  unfold wpList
  rw [if_pos hw]
  left
  unfold Oper.wp execOp
  simp only [ho, Sem.run_bind, hl, bse1, Result.andThen_ok]
  exact h _ (so_new1 w e) ((Below.refl _ _).alloc (Nat.le_refl _) _)
end
theorem SO.form {e : TypeId} {k : Nat} {ks : Nat → IntKind} {W : World} {base : Nat} {v : Value} {l : List (Nat → Int)} (h : SO e k ks W base v l) (hk : 0 < k) : ∃ q cap, v = .slice q l.length cap := by
  obtain ⟨q, cap, g, off, h1, _⟩ := h.sr hk
  exact ⟨q, cap, h1⟩
theorem SO.less {e : TypeId} {k : Nat} {ks : Nat → IntKind} {W : World} {base base' : Nat} {v : Value} {l : List (Nat → Int)} (h : SO e k ks W base v l) (hb : base' ≤ base) : SO e k ks W base' v l := own_less h hb
theorem so_nil (e : TypeId) (k : Nat) (ks : Nat → IntKind) (W : World) (base : Nat) : SO e k ks W base (.slice none 0 0) [] := World.ownsRow_nil W _ _ _

/-- What entriesOf answers. -/
def EnP (W : World) (base : Nat) (l : List Int) (e : Ending) : Prop :=
  (∃ es v, l = tailN es ∧ es.length ≤ 16 ∧ (∀ x ∈ es, WE x) ∧ e = .returned (.tuple #[v, .bool true]) ∧ SO 97 76 ek W base v es) ∨
  ((∀ es, es.length ≤ 16 → (∀ x ∈ es, WE x) → l ≠ tailN es) ∧ ∃ q n c, e = .returned (.tuple #[.slice q n c, .bool false]))
theorem ents_split : ∀ (done es : List (Nat → Int)) (rest : List Int), done.length ≤ es.length → done.flatMap enN ++ rest = es.flatMap enN → rest = (es.drop done.length).flatMap enN
  | [], es, rest, _, h => by simpa using h
  | d :: done, [], rest, h, _ => by simp at h
  | d :: done, e :: es, rest, h, he => by
    rw [List.flatMap_cons, List.flatMap_cons, List.append_assoc] at he
    obtain ⟨_, h2⟩ := enN_pre he
    simpa using ents_split done es rest (by simpa using h) h2
theorem ent_wf {a b : Int} {r : List Int} {ps : List PV} {more : List Int} {nx : Nat} {h : Nat → Int} (hf : In64 (a :: b :: r)) (hp : Parts r ps more) (e : foldH ps = some (nx, h)) : WE (mkE a b (cellOf r h)) := by
  refine ⟨hf a (by simp), hf b (by simp), ?_⟩
  rw [cE_mkE]
  exact cellOf_wf hp e fun x hx => hf x (by simp [hx])
theorem ent_back {a b : Int} {r : List Int} {ps : List PV} {more : List Int} {nx : Nat} {h : Nat → Int} (hf : In64 (a :: b :: r)) (hp : Parts r ps more) (e : foldH ps = some (nx, h)) : enN (mkE a b (cellOf r h)) ++ more = a :: b :: r := by
  have h2 : Fit (r.getD 2 0) := by
    have hl := hp.len
    rw [List.getD_eq_getElem?_getD, List.getElem?_eq_getElem (by omega)]
    exact hf _ (by simp)
  rw [enN_mkE, List.cons_append, List.cons_append, take_back hp e h2.1 h2.2]

end Go.Proofs.Ytlhamckpgijjmaa
namespace Go.Proofs.Ytlhamckpgijjmaa
open Go.ChangeShapes Go.WideShapes Go.ChangeAt Go.RowKit
set_option linter.unusedVariables false

section
variable {H : Type} {enc : TypeId × Value → H} {P : Program} {w : World} {base : Nat} {spare : Nat → Bool} {held : Bool}
/-- A struct that came in: its cells, and what each field reads as. -/
theorem open_struct {r : Reach} {b0 n : Nat} {t : TypeId} {fs : Array Field} {v : Value} {d : DataW H} {p : List MemPlace} (hu : P.underlying t = some (.struct fs)) (hC : P.cellsOf t = n)
    (hv : Value.okWide P w r b0 t v) (h : DataW.Trod enc P w base spare held t v d p) :
    ∃ cs : Array Value, v = .agg cs ∧ cs.size = n ∧ ∃ m, ∀ (i : Nat) (f : Field), fs[i]? = some f → ∃ x, DataW.trod enc P w base spare held m f.type ((cs.toList.drop f.offset).take (P.cellsOf f.type)) = some x := by
  obtain ⟨cs, rfl, hs⟩ : ∃ cs, v = .agg cs ∧ cs.size = P.cellsOf t := by
    simp only [Value.okWide, hu] at hv
    obtain ⟨cs, h1, h2, _⟩ := hv; exact ⟨cs, h1, h2⟩
  obtain ⟨fuel, hf⟩ := h
  obtain ⟨xs, m, _, _, _, hl, hx⟩ := DataW.trod_struct hu hf
  refine ⟨cs, rfl, hs.trans hC, m, fun i f hi => ?_⟩
  have := hx i f hi
  have hlt : i < xs.length := by rw [hl]; exact (Array.getElem?_eq_some_iff.1 hi).1
  rw [List.getElem?_eq_getElem hlt] at this
  exact ⟨_, by simpa [Value.cells] using this⟩
/-- A slice among a struct's fields whose elements are made of integers alone. -/
theorem rows_of {n D fuel : Nat} {t e : TypeId} {cs : List Value} {x : DataW H × List MemPlace} (ks : Nat → IntKind) (ht : P.underlying t = some (.slice e)) (hC : P.cellsOf e = n) (hn : 0 < n) (hk : ∀ j, j < n → kindAt P D e j = some (ks j))
    (hf : DataW.trod enc P w base spare held fuel t cs = some x) :
    ∃ (q : Option Addr) (g off len cap : Nat) (l : List (Nat → Int)), cs = [.slice q len cap] ∧ l.length = len ∧ len ≤ cap ∧ cap ≤ maxLen ∧ (0 < len → q = some ⟨g, off, none⟩) ∧ (0 < len → g < w.heap.size) ∧
      ∀ j c, l[j]? = some c → ∀ i, i < n → w.cell? ⟨g, off + j * n + i, none⟩ = some (.int (ks i) (c i)) ∧ (Lit.int (ks i) (c i)).wf = true := by
  rcases Deep.open_slice ht hf with ⟨hcs, _⟩ | ⟨a', len, cap, m, n', D', Pl, hcs, hb, hl, hm, hmm, hx, hel⟩
  · exact ⟨none, 0, 0, 0, 0, [], hcs, rfl, by omega, by unfold maxLen; omega, fun h => absurd h (by omega), fun h => absurd h (by omega), fun j c hc => by simp at hc⟩
  · have hle : len ≤ m := by rw [hmm]; split <;> omega
    have hcell : ∀ j, j < len → ∃ c : Nat → Int, ∀ i, i < n → w.cell? ((a'.add (j * n)).add i) = some (.int (ks i) (c i)) ∧ (Lit.int (ks i) (c i)).wf = true := by
      intro j hj
      obtain ⟨cs', h1, h2⟩ := hel j (by omega)
      rw [hC] at h1
      obtain ⟨_, h3, h4⟩ := World.cells?_some h1
      have : ∀ i, i < n → ∃ v : Int, w.cell? ((a'.add (j * n)).add i) = some (.int (ks i) v) ∧ (Lit.int (ks i) v).wf = true := fun i hi => by
        obtain ⟨v, hv, hwf⟩ := flat_cell D n' e cs' _ i (ks i) h2 (hk i hi)
        exact ⟨v, (h4 i hi).trans hv, hwf⟩
      obtain ⟨c, hc⟩ := Deep.choose_lt this
      exact ⟨c, hc⟩
    obtain ⟨L, hL⟩ := Deep.choose_lt (α := Nat → Int) hcell
    refine ⟨some a', a'.block, a'.off, len, cap, (List.range len).map L, hcs, by simp, hl, hm, fun h0 => ?_, fun h0 => ?_, fun j c hc i hi => ?_⟩
    · have := spot_of_cell (hL 0 h0 0 hn).1
      rw [Nat.zero_mul] at this
      have h1 : a'.spot = none := by simpa [Addr.add] using this
      obtain ⟨b, o, s⟩ := a'; cases h1; rfl
    · have h1 := (hL 0 h0 0 hn).1
      have := World.block_lt_of_cell? w _ h1
      simpa [Addr.add] using this
    · have hj : j < len := by have := (List.getElem?_eq_some_iff.1 hc).1; simpa using this
      have hcj : c = L j := by simp [hj] at hc; exact hc.symm
      subst hcj
      have h0 := (hL 0 (by omega) 0 hn).1
      have hs : a'.spot = none := by have := spot_of_cell h0; simpa [Addr.add] using this
      have h1 := hL j hj i hi
      rw [add_plain _ hs, add_plain _ rfl] at h1
      exact h1
end
end Go.Proofs.Ytlhamckpgijjmaa
