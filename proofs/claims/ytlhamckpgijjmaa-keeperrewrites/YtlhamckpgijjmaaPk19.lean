/-
  frame.Unwrap.
  Are slices each its own? What estuarynum.Apart does to them, step by step.
  estuarynum.Apart: true where each slice is its own.
  estuarynum.Copy and estuarynum.Kept.
  estuarynum.Over.
  The document's numbers: estuaryref04.Number, Put, Take, Nums.
  Lists of bytes that the call itself makes: an empty one, one of one slice, append of lists.
-/
import Derived.Test.YtlhamckpgijjmaaPk18
import Derived.Lib.Strings
namespace Go.Proofs.Ytlhamckpgijjmaa
open Go.RowKit
set_option linter.unusedVariables false

end Go.Proofs.Ytlhamckpgijjmaa
namespace Go.Proofs.Ytlhamckpgijjmaa
open Go.RowKit
set_option linter.unusedVariables false

/-- The mark of a place of a list. -/
def mk1 (k j : Nat) : Nat := (29 * k + 5 * j + 3) % 256
theorem mk1_lt (k j : Nat) : mk1 k j < 256 := Nat.mod_lt _ (by decide)
theorem mk1_cast (k j : Nat) : (29 * (k : Int) + 5 * (j : Int) + 3) % 256 = ((mk1 k j : Nat) : Int) := by unfold mk1; omega
/-- A list's marks. -/
def mrk (k : Nat) : Nat → List Nat
  | 0 => []
  | n + 1 => mrk k n ++ [mk1 k n]
theorem mrk_len (k n : Nat) : (mrk k n).length = n := by
  induction n with
  | zero => rfl
  | succ n ih => simp [mrk, ih]
theorem mrk_at (k n j : Nat) (h : j < n) : (mrk k n)[j]? = some (mk1 k j) := by
  induction n with
  | zero => omega
  | succ n ih =>
    rw [mrk]
    by_cases c : j < n
    · rw [List.getElem?_append_left (by rw [mrk_len]; exact c)]; exact ih c
    · have e : j = n := by omega
      subst e
      rw [List.getElem?_append_right (by rw [mrk_len]; exact Nat.le_refl _), mrk_len]; simp
theorem mrk_take (k n m : Nat) (h : m ≤ n) : (mrk k n).take m = mrk k m := by
  apply List.ext_getElem?
  intro j
  by_cases c : j < m
  · rw [List.getElem?_take_of_lt c, mrk_at k n j (by omega), mrk_at k m j c]
  · rw [List.getElem?_eq_none (by rw [List.length_take, mrk_len]; omega), List.getElem?_eq_none (by rw [mrk_len]; omega)]
/-- A list whose first places are marked. -/
def mix (k j : Nat) (l : List Nat) : List Nat := mrk k j ++ l.drop j
theorem mix_zero (k : Nat) (l : List Nat) : mix k 0 l = l := by simp [mix, mrk]
theorem mix_full (k : Nat) (l : List Nat) : mix k l.length l = mrk k l.length := by simp [mix]
theorem mix_len (k j : Nat) (l : List Nat) (h : j ≤ l.length) : (mix k j l).length = l.length := by
  unfold mix
  rw [List.length_append, mrk_len, List.length_drop]
  omega
theorem mix_set (k j : Nat) (l : List Nat) (h : j < l.length) : (mix k j l).set j (mk1 k j) = mix k (j + 1) l := by
  unfold mix
  rw [List.set_append_right _ _ (by rw [mrk_len]; exact Nat.le_refl _), mrk_len, Nat.sub_self, List.drop_eq_getElem_cons h, List.set_cons_zero, mrk, List.append_assoc]
  rfl
/-- Slices kept where another block grows. -/
theorem sl_kept {W W' : World} {v x : Value} {l : List Nat} (h : Sl W v l) (hs : Sep v x) (hg : W.grownBy W' x.ownBlock) : Sl W' v l := by
  obtain ⟨q, cap, rfl, h1, h2, h3⟩ := h
  refine ⟨q, cap, rfl, h1, h2, fun h0 => ?_⟩
  obtain ⟨g, off, rfl, hgl, hr⟩ := h3 h0
  refine ⟨g, off, rfl, Nat.lt_of_lt_of_le hgl hg.size, fun j y hy => ?_⟩
  exact hg.cell (hr j y hy) (fun e => hs g rfl e.symm)
/-- The beginning of an own slice. -/
theorem sl_pre {W : World} {base g n cap : Nat} {v : Value} {k m : Nat} (hv : Ow W base v (mrk k m)) (hb : v.ownBlock = some g) (hn : n ≤ m) (hc : n ≤ cap) (hm : cap ≤ maxLen) : Sl W (.slice (some ⟨g, 0, none⟩) n cap) (mrk k n) := by
  refine sl_of (mrk_len k n) hc hm (fun _ => rfl) (fun _ => (hv.lt g hb).2) (fun j x hx => ?_)
  have hj : j < n := by have := (List.getElem?_eq_some_iff.1 hx).1; rwa [mrk_len] at this
  rw [mrk_at k n j hj] at hx
  have := World.ownsRow.cells hv hb j (.int .u8 ((x : Nat) : Int)) (by rw [bys_at, mrk_at k m j (by omega), hx]; rfl)
  rwa [Addr.add_mid] at this
/-- The shape of an own slice. -/
def Shp (v : Value) (n : Nat) : Prop := v = .slice none 0 0 ∧ n = 0 ∨ ∃ g cap, v = .slice (some ⟨g, 0, none⟩) n cap ∧ n ≤ cap ∧ cap ≤ maxLen
theorem Ow.shp {W : World} {base : Nat} {v : Value} {l : List Nat} (h : Ow W base v l) : Shp v l.length := by
  rcases h.2 with ⟨h1, h2⟩ | ⟨g, cap, cur, h1, _, _, h2, h3, _⟩
  · exact .inl ⟨h1, h2⟩
  · exact .inr ⟨g, cap, h1, h2, h3⟩
/-- append of bytes: where it moves, all that was there stays. -/
theorem app_run2 {w : World} (A : World) (ty : TypeId) {v vx : Value} {n k : Nat} {l m : List Nat} (hown : w.ownsRow A.heap.size 5 1 v n (bys l)) (hsl : Sl w vx m) (hm : m.length = k) (h63 : n + k ≤ 1000000) (hA : Below A.heap.size A w) :
    ∃ v' w', (Builtin.append_ #[59, 59] ty #[v, vx]).run Try.prog w = .ok v' w' ∧ w'.ownsRow A.heap.size 5 1 v' (n + k) (bys (l ++ m)) ∧ Below A.heap.size A w' ∧ w.grownBy w' v.ownBlock ∧ (v'.ownBlock = v.ownBlock ∨ v'.ownBlock = some w.heap.size ∧ w.grownBy w' none) := by
  obtain ⟨v', w', hr, h1, h2, h3, h4, h5⟩ := app_run A ty hown hsl hm h63 hA
  refine ⟨v', w', hr, h1, h3, h4, ?_⟩
  rcases h5 with h5 | h5
  · exact .inl h5
  · rcases hown.2 with ⟨rfl, _⟩ | ⟨g, cap, cur, rfl, hbg, hg, hnc, hcm, hcs, htake⟩
    · exact .inr ⟨h5, h4⟩
    · obtain ⟨i, hi, hz0, hz1, hz2⟩ := info_parts infoByte
      subst hm
      obtain ⟨q, c, rfl, hq, hsrc⟩ := hsl.src
      by_cases hroom : n + m.length ≤ cap
      · left
        cases q with
        | none =>
          have h0 := hq rfl
          have hm0 : m = [] := List.eq_nil_of_length_eq_zero h0
          subst hm0
          have := append_none (P := Try.prog) w A.heap.size 59 ty 5 i 1 c Try.underlying59 hi _ n (bys l) hown
          rw [show ([] : List Nat).length = 0 from rfl, this] at hr
          cases hr
          rfl
        | some ad =>
          have := run_append_room (P := Try.prog) w 59 ty 5 i Try.underlying59 hi g n cap cur hg ad m.length c (bys m) (by rw [bys_len, hz1, Nat.mul_one]) (hsrc ad rfl) (bys_one m) hroom (by rw [bys_len, hz1, hcs]; omega)
          rw [this] at hr
          cases hr
          rfl
      · right
        cases q with
        | none =>
          have h0 := hq rfl
          omega
        | some ad =>
          have := run_append_grow (P := Try.prog) w 59 ty 5 i _ Try.underlying59 hi hz0 ⟨g, 0, none⟩ n cap (bys l) (by rw [hz1]; exact hown.1) (World.ownsRow.cells hown (g := g) rfl) ad m.length c (bys m) (by rw [bys_len, hz1, Nat.mul_one]) (hsrc ad rfl) (by omega) (by omega) (growslice_fits (by omega) (by rw [hz2]; omega))
          rw [this] at hr
          cases hr
          exact ⟨rfl, ⟨rfl, rfl, rfl, by simp, fun b hb _ => heap_alloc_old w.drew _ hb⟩⟩
section
variable {ops : Array Oper} {rest : List Oper} {o : Oper} {a : Act} {w : World} {Q : Exit → Act → World → Prop}
theorem app_by2 (A : World) (hw : Region.wanted o (yielded ops a.tmps) = true) {s x : Operand} (ho : o.op = .call { callee := .builtin .append, args := #[s, x], argTypes := #[59, 59] })
    {v vx : Value} {n k : Nat} {l m : List Nat} (hs : a.eval s = v) (hown : w.ownsRow A.heap.size 5 1 v n (bys l)) (hx : a.eval x = vx) (hsl : Sl w vx m) (hm : m.length = k) (h63 : n + k ≤ 1000000) (hA : Below A.heap.size A w)
    (h : ∀ v' w', w'.ownsRow A.heap.size 5 1 v' (n + k) (bys (l ++ m)) → Below A.heap.size A w' → w.grownBy w' v.ownBlock → (v'.ownBlock = v.ownBlock ∨ v'.ownBlock = some w.heap.size ∧ w.grownBy w' none) → wpList Try.prog ops Q rest (a.put o.dst v') w') : wpList Try.prog ops Q (o :: rest) a w := by
  unfold wpList
  rw [if_pos hw]
  left
  obtain ⟨v', w', hr, h1, h2, h3, h4⟩ := app_run2 A o.type hown hsl hm h63 hA
  unfold Oper.wp execOp
  simp only [ho, resolve, invoke, builtin, Sem.run_bind, Sem.run_pure, Result.andThen_ok, List.map_toArray, List.map_cons, List.map_nil, hs, hx, hr]
  exact h v' w' h1 h2 h3 h4
end
/-- Lists V, the first k of which have been grown to U; y holds these; gv holds V. From o on V are still as they were. -/
structure Gr (W : World) (base : Nat) (gv y : Value) (n o k : Nat) (V U : Nat → Value) (len : Nat → Nat) : Prop where
  own : ∀ j, o ≤ j → j < n → Ow W base (V j) (mrk j (len j))
  rd : ∀ j, j < o → j < n → Sl W (V j) (mrk j (len j))
  grw : ∀ j, j < k → Ow W base (U j) (mrk j (len j + 10))
  lt : ∀ j, j < n → ∀ b, (V j).ownBlock = some b → b < W.heap.size
  vv : ∀ i j, i < n → j < n → i ≠ j → Sep (V i) (V j)
  uv : ∀ i j, i < k → j < n → i ≠ j → Sep (U i) (V j)
  uu : ∀ i j, i < k → j < k → i ≠ j → Sep (U i) (U j)
  yv : ∀ j, j < n → Sep y (V j)
  yu : ∀ j, j < k → Sep y (U j)
  gw : ∀ j, j < n → Sep gv (V j)
  gu : ∀ j, j < k → Sep gv (U j)
  gy : Sep gv y
theorem Gr.keep {W W' : World} {base : Nat} {gv y : Value} {n o k : Nat} {V U : Nat → Value} {len : Nat → Nat} (h : Gr W base gv y n o k V U len) (hb : Below W.heap.size W W') : Gr W' base gv y n o k V U len :=
  ⟨fun j h1 h2 => (h.own j h1 h2).keep hb, fun j h1 h2 => (h.rd j h1 h2).keep hb, fun j h1 => (h.grw j h1).keep hb, fun j h1 b hb2 => Nat.lt_of_lt_of_le (h.lt j h1 b hb2) hb.size, h.vv, h.uv, h.uu, h.yv, h.yu, h.gw, h.gu, h.gy⟩
/-- A list is read from now on. -/
theorem Gr.next {W : World} {base : Nat} {gv y : Value} {n o k : Nat} {V U : Nat → Value} {len : Nat → Nat} (h : Gr W base gv y n o k V U len) : Gr W base gv y n (o + 1) k V U len :=
  ⟨fun j h1 h2 => h.own j (by omega) h2, fun j h1 h2 => by
    by_cases c : j < o
    · exact h.rd j c h2
    · exact (h.own j (by omega) h2).sl, h.grw, h.lt, h.vv, h.uv, h.uu, h.yv, h.yu, h.gw, h.gu, h.gy⟩
/-- A block of none of them grows. -/
structure Apt (gv y x : Value) (n k c : Nat) (V U : Nat → Value) : Prop where
  v : ∀ j, j < n → j ≠ c → Sep (V j) x
  u : ∀ j, j < k → Sep (U j) x
  y : Sep y x
  g : Sep gv x
theorem Gr.kept {W W' : World} {base : Nat} {gv y x : Value} {n k : Nat} {V U : Nat → Value} {len : Nat → Nat} (h : Gr W base gv y n (k + 1) k V U len) (hx : Apt gv y x n k k V U) (hg : W.grownBy W' x.ownBlock) (hr : k < n → Sl W' (V k) (mrk k (len k))) : Gr W' base gv y n (k + 1) k V U len :=
  ⟨fun j h1 h2 => (h.own j h1 h2).kept hg (hx.v j h2 (by omega)), fun j h1 h2 => by
    by_cases c : j = k
    · subst c; exact hr h2
    · exact sl_kept (h.rd j h1 h2) (hx.v j h2 c) hg, fun j h1 => (h.grw j h1).kept hg (hx.u j h1), fun j h1 b hb2 => Nat.lt_of_lt_of_le (h.lt j h1 b hb2) hg.size, h.vv, h.uv, h.uu, h.yv, h.yu, h.gw, h.gu, h.gy⟩
theorem Apt.at {W : World} {base : Nat} {gv y x x' : Value} {n o k c : Nat} {V U : Nat → Value} {len : Nat → Nat} (h : Apt gv y x n k c V U) (hG : Gr W base gv y n o k V U len) (hy : ∀ b, y.ownBlock = some b → b < W.heap.size) (hg : ∀ b, gv.ownBlock = some b → b < W.heap.size) (hat : x'.ownBlock = x.ownBlock ∨ x'.ownBlock = some W.heap.size) : Apt gv y x' n k c V U :=
  ⟨fun j h1 h2 => sep_at (h.v j h1 h2) (hG.lt j h1) hat, fun j h1 => sep_at (h.u j h1) (fun b hb => ((hG.grw j h1).lt b hb).2) hat, sep_at h.y hy hat, sep_at h.g hg hat⟩
/-- A list that has been grown is put with the others. -/
theorem Gr.put {W W' : World} {base : Nat} {gv y y' x : Value} {n k : Nat} {V U : Nat → Value} {len : Nat → Nat} (h : Gr W base gv y n (k + 1) k V U len) (hx : Apt gv y x n k k V U) (hO : Ow W base x (mrk k (len k + 10))) (hg : W.grownBy W' y.ownBlock) (hat : y'.ownBlock = y.ownBlock ∨ y'.ownBlock = some W.heap.size)
    (hgv : ∀ b, gv.ownBlock = some b → b < W.heap.size) : Gr W' base gv y' n (k + 1) (k + 1) V (fun j => if j = k then x else U j) len := by
  have hU : ∀ j, j < k + 1 → (j = k ∧ (if j = k then x else U j) = x) ∨ (j < k ∧ (if j = k then x else U j) = U j) := fun j hj => by
    by_cases c : j = k
    · exact .inl ⟨c, by rw [if_pos c]⟩
    · exact .inr ⟨by omega, by rw [if_neg c]⟩
  refine ⟨fun j h1 h2 => (h.own j h1 h2).kept hg (h.yv j h2).symm, fun j h1 h2 => sl_kept (h.rd j h1 h2) (h.yv j h2).symm hg, fun j h1 => ?_, fun j h1 b hb2 => Nat.lt_of_lt_of_le (h.lt j h1 b hb2) hg.size, h.vv, fun i j h1 h2 h3 => ?_, fun i j h1 h2 h3 => ?_, fun j h1 => (sep_at (h.yv j h1).symm (h.lt j h1) hat).symm, fun j h1 => ?_, h.gw, fun j h1 => ?_, sep_at h.gy hgv hat⟩
  · show Ow W' base (if j = k then x else U j) (mrk j (len j + 10))
    rcases hU j h1 with ⟨e, e2⟩ | ⟨e, e2⟩
    · rw [e2, e]; exact hO.kept hg hx.y.symm
    · rw [e2]; exact (h.grw j e).kept hg (h.yu j e).symm
  · show Sep (if i = k then x else U i) (V j)
    rcases hU i h1 with ⟨e, e2⟩ | ⟨e, e2⟩
    · rw [e2]; exact (hx.v j h2 (by omega)).symm
    · rw [e2]; exact h.uv i j e h2 h3
  · show Sep (if i = k then x else U i) (if j = k then x else U j)
    rcases hU i h1 with ⟨e, e2⟩ | ⟨e, e2⟩ <;> rcases hU j h2 with ⟨f, f2⟩ | ⟨f, f2⟩
    · omega
    · rw [e2, f2]; exact (hx.u j f).symm
    · rw [e2, f2]; exact hx.u i e
    · rw [e2, f2]; exact h.uu i j e f h3
  · show Sep y' (if j = k then x else U j)
    rcases hU j h1 with ⟨e, e2⟩ | ⟨e, e2⟩
    · rw [e2]; exact (sep_at hx.y.symm (fun b hb => (hO.lt b hb).2) hat).symm
    · rw [e2]; exact (sep_at (h.yu j e).symm (fun b hb => ((h.grw j e).lt b hb).2) hat).symm
  · show Sep gv (if j = k then x else U j)
    rcases hU j h1 with ⟨e, e2⟩ | ⟨e, e2⟩
    · rw [e2]; exact hx.g
    · rw [e2]; exact h.gu j e
end Go.Proofs.Ytlhamckpgijjmaa
namespace Go.Proofs.Ytlhamckpgijjmaa
open Go.RowKit
set_option linter.unusedVariables false

/-- Lists of their own, and the row that holds them. -/
structure Bg (W : World) (base gl off n : Nat) (V : Nat → Value) (c : Nat → List Nat) : Prop where
  own : ∀ j, j < n → Ow W base (V j) (c j)
  row : ∀ j, j < n → W.cell? ⟨gl, off + j, none⟩ = some (V j)
theorem Bg.same {W : World} {base gl off n : Nat} {V : Nat → Value} {c d : Nat → List Nat} (h : Bg W base gl off n V c) (he : ∀ j, j < n → c j = d j) : Bg W base gl off n V d :=
  ⟨fun j hj => by rw [← he j hj]; exact h.own j hj, h.row⟩
/-- The first k marked; of the k-th the first t places. -/
def cI (C : Nat → List Nat) (k t j : Nat) : List Nat := if j < k then mrk j (C j).length else if j = k then mix k t (C k) else C j
theorem cI_next (C : Nat → List Nat) (k j : Nat) : cI C k (C k).length j = cI C (k + 1) 0 j := by
  unfold cI
  by_cases c : j < k
  · rw [if_pos c, if_pos (by omega)]
  · by_cases d : j = k
    · subst d
      rw [if_neg c, if_pos rfl, if_pos (by omega), mix_full]
    · rw [if_neg c, if_neg d, if_neg (by omega)]
      by_cases e : j = k + 1
      · subst e; rw [if_pos rfl, mix_zero]
      · rw [if_neg e]
theorem Bg.store {W : World} {base gl off n k t g cap : Nat} {V : Nat → Value} {C : Nat → List Nat} (h : Bg W base gl off n V (cI C k t)) (hk : k < n) (ht : t < (C k).length) (hv : V k = .slice (some ⟨g, 0, none⟩) (C k).length cap) (hs : ∀ i, i < n → i ≠ k → Sep (V i) (V k)) (hg : gl ≠ g) :
    Bg (W.setCell ⟨g, t, none⟩ (.int .u8 ((mk1 k t : Nat) : Int))) base gl off n V (cI C k (t + 1)) := by
  have hO := h.own k hk
  have e : cI C k t k = mix k t (C k) := by unfold cI; rw [if_neg (by omega), if_pos rfl]
  rw [e, hv] at hO
  have hO2 : W.ownsRow base 5 1 (.slice (some ⟨g, 0, none⟩) (C k).length cap) (C k).length (bys (mix k t (C k))) := by
    unfold Ow at hO
    rwa [mix_len k t (C k) (by omega)] at hO
  obtain ⟨h1, h2⟩ := hO2.stored t (.int .u8 ((mk1 k t : Nat) : Int))
  rw [bys_set, mix_set k t (C k) ht] at h1
  refine ⟨fun j hj => ?_, fun j hj => h2.cell (h.row j hj) (fun e => hg (by simpa using e))⟩
  by_cases c : j = k
  · subst c
    have e2 : cI C j (t + 1) j = mix j (t + 1) (C j) := by unfold cI; rw [if_neg (by omega), if_pos rfl]
    rw [e2, hv]
    exact ow_of h1
  · have e2 : cI C k (t + 1) j = cI C k t j := by unfold cI; rw [if_neg c, if_neg c]
    rw [e2]
    have hsj := hs j hj c
    rw [hv] at hsj
    exact (h.own j hj).kept (x := .slice (some ⟨g, 0, none⟩) (C k).length cap) h2 hsj
theorem bsl0 (w : World) : (Instr.buildSlice 65 0 #[]).run Try.prog w = .ok (.slice (some ⟨w.heap.size, 0, none⟩) 0 0) (w.alloc (.cells #[] 59)) := by kernel_rfl
section
variable {ops : Array Oper} {rest : List Oper} {o : Oper} {a : Act} {w : World} {Q : Exit → Act → World → Prop}
/-- '[][]byte{}'. -/
theorem bs_l0 (A : World) (hA : A.heap.size ≤ w.heap.size) (hw : Region.wanted o (yielded ops a.tmps) = true) (ho : o.op = .buildSlice 65 0 #[])
    (h : ∀ W', W'.ownsRow A.heap.size 59 1 (.slice (some ⟨w.heap.size, 0, none⟩) 0 0) 0 [] → Below w.heap.size w W' → wpList Try.prog ops Q rest (a.put o.dst (.slice (some ⟨w.heap.size, 0, none⟩) 0 0)) W') : wpList Try.prog ops Q (o :: rest) a w := by
  unfold wpList
  rw [if_pos hw]
  left
  unfold Oper.wp execOp
  have hl : (#[] : Array (Nat × Operand)).map (fun (i, x) => (i, a.eval x)) = #[] := by simp
  simp only [ho, Sem.run_bind, hl, bsl0, Result.andThen_ok]
  exact h _ (own_empty w A 59 1 hA) ((Below.refl _ _).alloc (Nat.le_refl _) _)
end
/-- What was read is read, where the list that grew out of it grows on. -/
theorem rd_step {W W' : World} {base k m t : Nat} {v x x' : Value} (hs : Shp v m) (hv : Sl W v (mrk k m)) (hO : Ow W' base x' (mrk k (m + t))) (hg : W.grownBy W' x.ownBlock) (hat : x'.ownBlock = x.ownBlock ∨ x'.ownBlock = some W.heap.size ∧ W.grownBy W' none) : Sl W' v (mrk k m) := by
  rcases hs with ⟨rfl, rfl⟩ | ⟨g, cap, rfl, hc, hm⟩
  · exact sl_nil W'
  · by_cases c : x.ownBlock = some g
    · rcases hat with e | ⟨_, e⟩
      · exact sl_pre hO (e.trans c) (by omega) hc hm
      · exact sl_kept (x := .slice none 0 0) hv (fun b hb he => by cases he) e
    · refine sl_kept (x := x) hv (fun b hb he => ?_) hg
      simp [Value.ownBlock] at hb
      exact c (by rw [he, hb])

/-- How long a slice is. -/
def slLen2 : Value → Nat
  | .slice _ n _ => n
  | _ => 0
end Go.Proofs.Ytlhamckpgijjmaa
namespace Go.Proofs.Ytlhamckpgijjmaa
open Go.RowKit
set_option linter.unusedVariables false

/-- A copy: its bytes, and two marks behind them. -/
def Cp (W : World) (base : Nat) (v : Value) (l : List Nat) : Prop := ∃ g cap, v = .slice (some ⟨g, 0, none⟩) l.length cap ∧ W.ownsRow base 5 1 (.slice (some ⟨g, 0, none⟩) (l.length + 2) cap) (l.length + 2) (bys (l ++ [165, 90]))
theorem Cp.keep {W W' : World} {base : Nat} {v : Value} {l : List Nat} (h : Cp W base v l) (hb : Below W.heap.size W W') : Cp W' base v l := by
  obtain ⟨g, cap, rfl, h1⟩ := h
  exact ⟨g, cap, rfl, own_keep h1 hb⟩
theorem own_pre {W : World} {base g n m cap : Nat} {xs : List Value} (h : W.ownsRow base 5 1 (.slice (some ⟨g, 0, none⟩) n cap) n xs) (hm : m ≤ n) : W.ownsRow base 5 1 (.slice (some ⟨g, 0, none⟩) m cap) m (xs.take m) := by
  obtain ⟨h1, h2⟩ := h
  refine ⟨by rw [List.length_take]; omega, .inr ?_⟩
  rcases h2 with ⟨h2, _⟩ | ⟨g', cap', cur, e, hb, hg, hnc, hcm, hcs, ht⟩
  · cases h2
  · cases e
    refine ⟨g, cap, cur, rfl, hb, hg, by omega, hcm, hcs, ?_⟩
    rw [← ht, List.take_take]
    congr 1
    omega
theorem Cp.ow {W : World} {base : Nat} {v : Value} {l : List Nat} (h : Cp W base v l) : Ow W base v l := by
  obtain ⟨g, cap, rfl, h1⟩ := h
  have := own_pre h1 (Nat.le_add_right l.length 2)
  have e : (bys (l ++ [165, 90])).take l.length = bys l := by
    rw [← bys_append, ← bys_len l, List.take_left]
  rw [e] at this
  exact this
end Go.Proofs.Ytlhamckpgijjmaa
namespace Go.Proofs.Ytlhamckpgijjmaa
open Go.RowKit
set_option linter.unusedVariables false

def u8s (zs : List Int) : List Value := zs.map fun z => Value.int .u8 z
theorem u8s_set (l : List Int) (j : Nat) (x : Int) : (u8s l).set j (.int .u8 x) = u8s (l.set j x) := by simp [u8s, List.map_set]
theorem bys_u8s (l : List Nat) : bys l = u8s (l.map fun x => ((x : Nat) : Int)) := by simp [bys, u8s]
end Go.Proofs.Ytlhamckpgijjmaa
namespace Go.Proofs.Ytlhamckpgijjmaa
open Go.RowKit
set_option linter.unusedVariables false

theorem leB_cons (j u : Nat) (hu : u < 256 ^ j) (h0 : u ≠ 0) : ∃ k, j = k + 1 ∧ leB j u = u % 256 :: leB k (u / 256) ∧ u / 256 < 256 ^ k := by
  cases j with
  | zero => exact absurd (by simpa using hu) h0
  | succ k =>
    refine ⟨k, rfl, ?_, by rw [Nat.pow_succ] at hu; omega⟩
    rw [leB, if_neg h0]
theorem leB_zero (j : Nat) : leB j 0 = [] := by cases j <;> simp [leB]
/-- How a number is written: what is done, and what is left. -/
structure Wr (u : Nat) (l : List Nat) (rem : Nat) : Prop where
  len : l.length ≤ 8
  lt : rem < 256 ^ (8 - l.length)
  all : l ++ leB (8 - l.length) rem = leB 8 u
theorem Wr.start {u : Nat} (hu : u < 18446744073709551616) : Wr u [] u := ⟨by simp, by simpa using hu, by simp⟩
theorem Wr.step {u : Nat} {l : List Nat} {rem : Nat} (h : Wr u l rem) (h0 : rem ≠ 0) : Wr u (l ++ [rem % 256]) (rem / 256) := by
  obtain ⟨k, e, e2, e3⟩ := leB_cons (8 - l.length) rem h.lt h0
  have hl : (l ++ [rem % 256]).length = l.length + 1 := by simp
  have hk : 8 - (l ++ [rem % 256]).length = k := by rw [hl]; omega
  refine ⟨by rw [hl]; omega, by rw [hk]; exact e3, ?_⟩
  rw [hk, ← h.all, e2, List.append_assoc]
  rfl
theorem Wr.end {u : Nat} {l : List Nat} (h : Wr u l 0) : l = leB 8 u := by
  have := h.all
  rwa [leB_zero, List.append_nil] at this
theorem val_drop (l : List Nat) (i x : Nat) (h : l[i]? = some x) : val (l.drop i) = x + 256 * val (l.drop (i + 1)) := by
  obtain ⟨hi, e⟩ := List.getElem?_eq_some_iff.1 h
  rw [List.drop_eq_getElem_cons hi, val, e]
theorem val_drop_lt (l : List Nat) (hb : Byt l) (h8 : l.length ≤ 8) (i : Nat) : val (l.drop i) < 18446744073709551616 := by
  have h := val_lt (l.drop i) (hb.drop i)
  have hl : (l.drop i).length ≤ 8 := by rw [List.length_drop]; omega
  have := Nat.pow_le_pow_right (n := 256) (by decide) hl
  omega
theorem unz_even (u : Nat) (h : u % 2 = 0) : unz u = ((u / 2 : Nat) : Int) := by unfold unz; rw [if_neg (by omega)]
theorem unz_odd (u : Nat) (h : u % 2 = 1) : unz u = -((u / 2 : Nat) : Int) - 1 := by unfold unz; rw [if_pos h]
end Go.Proofs.Ytlhamckpgijjmaa
namespace Go.Proofs.Ytlhamckpgijjmaa
open Go.RowKit
set_option linter.unusedVariables false
set_option maxRecDepth 100000

theorem ls_own {W : World} {b n : Nat} {v : Value} {vs : List Value} {ls : List (List Nat)} (ho : W.ownsRow b 59 1 v n vs) (hlen : vs.length = ls.length) (hE : ∀ (j : Nat) (x : Value) (l : List Nat), vs[j]? = some x → ls[j]? = some l → Sl W x l) : Ls W v vs ls := by
  obtain ⟨h1, q, g, cap, rfl, hp, hg, _, _, hc, hm, hr, _⟩ := own_open ho (by omega)
  rw [Nat.mul_one] at h1
  subst h1
  exact ⟨hlen, ⟨q, cap, rfl, hc, hm, fun h0 => ⟨g, 0, hp h0, hg h0, fun j x hx => by rw [Nat.zero_add]; exact hr j x hx⟩⟩, hE⟩
theorem ls_src {W : World} {v : Value} {vs : List Value} {ls : List (List Nat)} (h : Ls W v vs ls) : ∃ q cap, v = .slice q ls.length cap ∧ (q = none → ls.length = 0) ∧ (∀ ad, q = some ad → ∀ j u, vs[j]? = some u → W.cell? (ad.add j) = some u) ∧ ∀ u ∈ vs, u.oneCell' = true := by
  obtain ⟨q, cap, g, off, e, h1, h2, h3, h4, h5⟩ := h.open
  refine ⟨q, cap, e, fun hq => ?_, fun ad ha j u hu => ?_, fun u hu => ?_⟩
  · apply Classical.byContradiction
    intro h0
    have := h3 (by omega)
    rw [hq] at this
    cases this
  · have h0 : 0 < ls.length := by have := (List.getElem?_eq_some_iff.1 hu).1; rw [h.len] at this; omega
    have := h3 h0
    rw [ha] at this
    cases this
    rw [Addr.add_mid]
    exact h5 j u hu
  · obtain ⟨j, hj⟩ := List.getElem?_of_mem hu
    have hjl : j < ls.length := by have := (List.getElem?_eq_some_iff.1 hj).1; rwa [h.len] at this
    obtain ⟨a, b, c, rfl⟩ := (h.each j u _ hj (List.getElem?_eq_getElem hjl)).slice
    rfl
/-- append of a list of bytes onto an own one: its run. -/
theorem app_runL {w : World} (base : Nat) (ty : TypeId) {v vx : Value} {n k : Nat} {xs vs : List Value} {ls : List (List Nat)} (hown : w.ownsRow base 59 1 v n xs) (hsl : Ls w vx vs ls) (hm : ls.length = k) (h63 : n + k ≤ 5864062014805) (hA : base ≤ w.heap.size) :
    ∃ v' w', (Builtin.append_ #[65, 65] ty #[v, vx]).run Try.prog w = .ok v' w' ∧ w'.ownsRow base 59 1 v' (n + k) (xs ++ vs) ∧ w.grownBy w' v.ownBlock ∧ (v'.ownBlock = v.ownBlock ∨ v'.ownBlock = some w.heap.size) := by
  obtain ⟨i, hi, hz0, hz1, hz2⟩ := info_parts infoBytes
  subst hm
  obtain ⟨q, cap, rfl, hq, hsrc, hone⟩ := ls_src hsl
  cases q with
  | none =>
    have h0 := hq rfl
    have hv0 : vs = [] := List.eq_nil_of_length_eq_zero (by rw [hsl.len]; exact h0)
    subst hv0
    rw [h0]
    exact ⟨v, w, append_none (P := Try.prog) w base 65 ty 59 i 1 cap Try.underlying65 hi v n xs hown, by simpa using hown, ⟨rfl, rfl, rfl, Nat.le_refl _, fun _ _ _ => rfl⟩, .inl rfl⟩
  | some ad =>
    obtain ⟨v', w', hr, h2, h3, h4, h5⟩ := run_append_own_at (P := Try.prog) w base 65 ty 59 i _ 1 24 Try.underlying65 hi hz0 hz1 hz2 rfl (by omega) v n xs hown ad ls.length cap vs (by rw [Nat.mul_one]; exact hsl.len) (hsrc ad rfl) hone (by unfold maxLen; omega) (by omega) hA
    exact ⟨v', w', hr, h2, h3, h5⟩
theorem own_newL (w : World) (xs : List Value) (n : Nat) (hn : xs.length = n) (hm : n ≤ maxLen) : (w.alloc (.cells xs.toArray 59)).ownsRow w.heap.size 59 1 (.slice (some ⟨w.heap.size, 0, none⟩) n n) n xs := by
  refine ⟨by rw [hn, Nat.mul_one], .inr ⟨w.heap.size, n, xs.toArray, rfl, Nat.le_refl _, ?_, Nat.le_refl _, hm, ?_, ?_⟩⟩
  · show (w.heap.push _)[w.heap.size]? = _; simp
  · simp [hn]
  · rw [Nat.mul_one, ← hn]; simp
section
variable {o : Oper} {a : Act} {w : World} {K : Act → World → Prop} {Q : Exit → Act → World → Prop}
theorem lst0W (d : Option Tmp) (hd : o.dst = d) (ho : o.op = .buildSlice 65 0 #[]) (h : ∀ v' W', W'.ownsRow w.heap.size 59 1 v' 0 [] → Below w.heap.size w W' → K (a.put d v') W') : o.wp Try.prog a w K Q := by
  subst hd
  have hrun : (Instr.buildSlice 65 0 #[]).run Try.prog w = .ok (.slice (some ⟨w.heap.size, 0, none⟩) 0 0) (w.alloc (.cells #[] 59)) := by kernel_rfl
  unfold Oper.wp execOp
  simp only [ho, Sem.run_bind, List.map_toArray, List.map_nil, hrun, Result.andThen_ok]
  exact h _ _ (own_newL w [] 0 rfl (by decide)) ((Below.refl _ _).alloc (Nat.le_refl _) _)
theorem lst1W (d : Option Tmp) (hd : o.dst = d) {x : Operand} (ho : o.op = .buildSlice 65 1 #[(0, x)]) {q : Option Addr} {n c : Nat} (hx : a.eval x = .slice q n c) (h : ∀ v' W', W'.ownsRow w.heap.size 59 1 v' 1 [.slice q n c] → Below w.heap.size w W' → K (a.put d v') W') : o.wp Try.prog a w K Q := by
  subst hd
  have hrun := bsl1 q n c w
  unfold Oper.wp execOp
  simp only [ho, Sem.run_bind, List.map_toArray, List.map_cons, List.map_nil, hx, hrun, Result.andThen_ok]
  exact h _ _ (own_newL w [.slice q n c] 1 rfl (by decide)) ((Below.refl _ _).alloc (Nat.le_refl _) _)
theorem appLW (base : Nat) (d : Option Tmp) (hd : o.dst = d) {s x : Operand} (ho : o.op = .call { callee := .builtin .append, args := #[s, x], argTypes := #[65, 65] })
    {v vx : Value} {n k : Nat} {xs vs : List Value} {ls : List (List Nat)} (hs : a.eval s = v) (hown : w.ownsRow base 59 1 v n xs) (hx : a.eval x = vx) (hsl : Ls w vx vs ls) (hm : ls.length = k) (h63 : n + k ≤ 5864062014805) (hA : base ≤ w.heap.size)
    (h : ∀ v' w', w'.ownsRow base 59 1 v' (n + k) (xs ++ vs) → w.grownBy w' v.ownBlock → K (a.put d v') w') : o.wp Try.prog a w K Q := by
  subst hd
  obtain ⟨v', w', hr, h1, h2, h3⟩ := app_runL base o.type hown hsl hm h63 hA
  unfold Oper.wp execOp
  simp only [ho, resolve, invoke, builtin, Sem.run_bind, Sem.run_pure, Result.andThen_ok, List.map_toArray, List.map_cons, List.map_nil, hs, hx, hr]
  exact h v' w' h1 h2
end
end Go.Proofs.Ytlhamckpgijjmaa
