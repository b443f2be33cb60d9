/-
  The chapter's examples: estuarylaw03.alive.
  What is covered: place.Covered, with its closure, and slices.ContainsFunc at it.
  Plain mathematics of streams: what their calls answer and leave.
  The document's own cells and what it calls covered: estuaryref03.Ids, estuaryref03.Covered; estuarylaw03.same at one row of cells.
-/
import Derived.Test.YtfnageillhpjpaaPk20
import Derived.Lib.SmallJoins
namespace Go.Proofs.Ytfnageillhpjpaa
set_option maxRecDepth 100000
open Go.RowKit
set_option linter.unusedVariables false

theorem idL_ex : idL (-1) 5 2 [10, 60] = [(1, -1, 5), (3, -1, 5)] := by decide +kernel
end Go.Proofs.Ytfnageillhpjpaa
namespace Go.Proofs.Ytfnageillhpjpaa
set_option maxRecDepth 100000
open Go.RowKit
set_option linter.unusedVariables false

/-- A cell is ahead of its lane's place. -/
def cov1 (pls : List (Int × Int)) (x : Int × Int × Int) : Bool := if 0 ≤ x.1 then (match pls[x.1.toNat]? with | some p => pl x.2.1 x.2.2 p.1 p.2 | none => false) else false
def covL (pls : List (Int × Int)) (L : List (Int × Int × Int)) : Bool := decide (0 < L.length) && L.all (cov1 pls)
theorem cov_neg {pls : List (Int × Int)} {l a k : Int} (h : l < 0) : cov1 pls (l, a, k) = false := by unfold cov1; rw [if_neg (by dsimp only; omega)]
theorem cov_far {pls : List (Int × Int)} {l a k : Int} {n : Nat} (hn : pls.length = n) (h : (n : Int) ≤ l) : cov1 pls (l, a, k) = false := by
  unfold cov1; dsimp only; rw [if_pos (by omega), List.getElem?_eq_none (by omega)]
theorem cov_at {pls : List (Int × Int)} {m : Nat} {a k : Int} {p : Int × Int} (h : pls[m]? = some p) : cov1 pls ((m : Int), a, k) = pl a k p.1 p.2 := by
  unfold cov1; dsimp only; rw [if_pos (by omega), Int.toNat_natCast, h]

end Go.Proofs.Ytfnageillhpjpaa
namespace Go.Proofs.Ytfnageillhpjpaa
set_option maxRecDepth 100000
open Go.RowKit
set_option linter.unusedVariables false

/-- An operation: its number, kind, time, key, value. -/
structure Op5 where
  s : Int
  k : Int
  t : Int
  y : Int
  v : Int
  deriving DecidableEq
def zOp : Op5 := ⟨0, 0, 0, 0, 0⟩
/-- A stream. -/
structure Sm where
  res : List Int
  sh : Int
  hd : Int
  nx : Int
  mr : Op5
  ho : List Op5
  ct : List (Int × Int)
def mkd (S : Sm) : Bool := decide (S.mr ≠ zOp)
def pas (S : Sm) (t : Int) : Bool := mkd S && decide (t < S.mr.t)
def sampN (S : Sm) (t : Int) : Nat := if pas S t = true then 8 else if S.hd ≤ (S.ho.length : Int) then 10 else 0
def sampO (S : Sm) (t y v : Int) : Op5 := if sampN S t = 0 then ⟨S.nx, 1, t, y, v⟩ else zOp
def markN (S : Sm) (t : Int) : Nat := if pas S t = true then 9 else 0
def markO (S : Sm) (t : Int) : Op5 := if markN S t = 0 then ⟨S.nx, 2, t, 0, 0⟩ else zOp
def putN (S : Sm) (o : Op5) : Nat := if o.s ≠ S.nx then 2 else if o.k = 1 then (if pas S o.t = true then 8 else 0) else if o.k = 2 then (if pas S o.t = true then 9 else if o.y = 0 ∧ o.v = 0 then 0 else 2) else 2
def putS (S : Sm) (o : Op5) : Sm := if putN S o = 0 then (if o.k = 1 then { S with ho := S.ho ++ [o], nx := S.nx + 1 } else { S with mr := o, nx := S.nx + 1 }) else S
def lanS (S : Sm) : Int := (S.res.length : Int) * S.sh
def mxP (c p : Int × Int) : Int × Int := if pl c.1 c.2 p.1 p.2 = true then p else c
def cutC (S : Sm) (ps : List (Int × Int)) : Sm := { S with ct := List.zipWith mxP S.ct ps }
def cov5 (S : Sm) (o : Op5) : Bool := covL S.ct (idL o.t o.y S.sh S.res)
def drpS (S : Sm) : Sm := { S with ho := S.ho.filter fun o => !cov5 S o }
def cutS (S : Sm) (ps : List (Int × Int)) : Sm := drpS (cutC S ps)
def newS (res : List Int) (sh hd : Int) : Sm := ⟨res, sh, hd, 1, zOp, [], List.replicate (res.length * sh.toNat) (-9223372036854775808, -9223372036854775808)⟩
def goodF (res : List Int) (sh hd : Int) : Bool := res.all (fun r => decide (1 ≤ r)) && decide (1 ≤ res.length ∧ res.length ≤ 3) && decide (1 ≤ sh ∧ sh ≤ 4) && decide (1 ≤ hd ∧ hd ≤ 64)
/-- A number of a machine. -/
def J64 (x : Int) : Prop := -9223372036854775808 ≤ x ∧ x ≤ 9223372036854775807
structure Fit5 (o : Op5) : Prop where
  s : J64 o.s
  k : J64 o.k
  t : J64 o.t
  y : J64 o.y
  v : J64 o.v
theorem fit_z : Fit5 zOp := by constructor <;> (unfold J64 zOp; dsimp only; omega)
/-- A stream as its calls leave it. -/
structure Oks (S : Sm) : Prop where
  r0 : 1 ≤ S.res.length
  r1 : S.res.length ≤ 3
  rr : ∀ r ∈ S.res, 1 ≤ r ∧ r ≤ 9223372036854775807
  s0 : 1 ≤ S.sh
  s1 : S.sh ≤ 4
  h0 : 1 ≤ S.hd
  h1 : S.hd ≤ 64
  n0 : 1 ≤ S.nx
  n1 : S.nx ≤ 9223372036854775807
  len : S.ho.length ≤ 100000
  lt : ∀ o ∈ S.ho, o.s < S.nx
  gt : ∀ o ∈ S.ho, 0 < o.s
  srt : S.ho.Pairwise fun a b => a.s < b.s
  ml : S.mr.s < S.nx
  mne : ∀ o ∈ S.ho, o.s ≠ S.mr.s
  fit : ∀ o ∈ S.ho, Fit5 o
  mf : Fit5 S.mr
  cl : (S.ct.length : Int) = lanS S
  cf : ∀ p ∈ S.ct, J64 p.1 ∧ J64 p.2
theorem Oks.lan {S : Sm} (h : Oks S) : 1 ≤ lanS S ∧ lanS S ≤ 12 := by
  have h1 := h.r0
  have h2 := h.r1
  have h3 := h.s0
  have h4 := h.s1
  unfold lanS
  constructor
  · have : (1 : Int) * 1 ≤ (S.res.length : Int) * S.sh := Int.mul_le_mul (by omega) h3 (by omega) (by omega)
    omega
  · have : (S.res.length : Int) * S.sh ≤ 3 * 4 := Int.mul_le_mul (by omega) h4 (by omega) (by omega)
    omega
theorem goodF_iff {res : List Int} {sh hd : Int} : goodF res sh hd = true ↔ (∀ r ∈ res, 1 ≤ r) ∧ (1 ≤ res.length ∧ res.length ≤ 3) ∧ (1 ≤ sh ∧ sh ≤ 4) ∧ (1 ≤ hd ∧ hd ≤ 64) := by
  unfold goodF
  simp only [Bool.and_eq_true, decide_eq_true_eq, List.all_eq_true]
  constructor
  · rintro ⟨⟨⟨a, b⟩, c⟩, d⟩; exact ⟨a, b, c, d⟩
  · rintro ⟨a, b, c, d⟩; exact ⟨⟨⟨a, b⟩, c⟩, d⟩
theorem oks_new {res : List Int} {sh hd : Int} (h : goodF res sh hd = true) (hr : ∀ r ∈ res, r ≤ 9223372036854775807) : Oks (newS res sh hd) := by
  obtain ⟨a, b, c, d⟩ := goodF_iff.1 h
  refine ⟨b.1, b.2, fun r h => ⟨a r h, hr r h⟩, c.1, c.2, d.1, d.2, by show (1 : Int) ≤ 1; omega, by show (1 : Int) ≤ 9223372036854775807; omega, by show 0 ≤ 100000; omega, fun o h => (by cases h), fun o h => (by cases h), List.Pairwise.nil, by show (0 : Int) < 1; omega, fun o h => (by cases h), fun o h => (by cases h), fit_z, ?_, ?_⟩
  · show ((List.replicate (res.length * sh.toNat) _).length : Int) = (res.length : Int) * sh
    rw [List.length_replicate, Int.natCast_mul, Int.toNat_of_nonneg (by omega)]
  · intro p hp
    have := List.eq_of_mem_replicate hp
    subst this
    unfold J64
    dsimp only
    omega
theorem putS_sample {S : Sm} {o : Op5} (h : putN S o = 0) (hk : o.k = 1) : putS S o = { S with ho := S.ho ++ [o], nx := S.nx + 1 } := by
  unfold putS; rw [if_pos h, if_pos hk]
theorem putS_mark {S : Sm} {o : Op5} (h : putN S o = 0) (hk : o.k ≠ 1) : putS S o = { S with mr := o, nx := S.nx + 1 } := by
  unfold putS; rw [if_pos h, if_neg hk]
theorem putS_no {S : Sm} {o : Op5} (h : putN S o ≠ 0) : putS S o = S := by
  unfold putS; rw [if_neg h]
theorem putN_seq {S : Sm} {o : Op5} (h : putN S o = 0) : o.s = S.nx := by
  unfold putN at h
  by_cases c : o.s = S.nx
  · exact c
  · rw [if_pos c] at h; cases h
theorem oks_put {S : Sm} {o : Op5} (h : Oks S) (hf : Fit5 o) (hn : S.nx < 9223372036854775807) (hl : S.ho.length < 100000) : Oks (putS S o) := by
  by_cases c : putN S o = 0
  · have hs := putN_seq c
    by_cases k : o.k = 1
    · rw [putS_sample c k]
      refine ⟨h.r0, h.r1, h.rr, h.s0, h.s1, h.h0, h.h1, ?_, ?_, ?_, ?_, ?_, ?_, ?_, ?_, ?_, h.mf, h.cl, h.cf⟩
      · have := h.n0; show 1 ≤ S.nx + 1; omega
      · show S.nx + 1 ≤ _; omega
      · show (S.ho ++ [o]).length ≤ _; rw [List.length_append, List.length_singleton]; omega
      · intro x hx
        show x.s < S.nx + 1
        rcases List.mem_append.1 hx with hx | hx
        · have := h.lt x hx; omega
        · rw [List.mem_singleton.1 hx]; omega
      · intro x hx
        rcases List.mem_append.1 hx with hx | hx
        · exact h.gt x hx
        · rw [List.mem_singleton.1 hx]; have := h.n0; omega
      · refine List.pairwise_append.2 ⟨h.srt, List.pairwise_singleton _ _, fun x hx y hy => ?_⟩
        rw [List.mem_singleton.1 hy, hs]
        exact h.lt x hx
      · have := h.ml; show S.mr.s < S.nx + 1; omega
      · intro x hx
        show x.s ≠ S.mr.s
        rcases List.mem_append.1 hx with hx | hx
        · exact h.mne x hx
        · rw [List.mem_singleton.1 hx]; have := h.ml; omega
      · intro x hx
        rcases List.mem_append.1 hx with hx | hx
        · exact h.fit x hx
        · rw [List.mem_singleton.1 hx]; exact hf
    · rw [putS_mark c k]
      refine ⟨h.r0, h.r1, h.rr, h.s0, h.s1, h.h0, h.h1, ?_, ?_, h.len, ?_, h.gt, h.srt, ?_, ?_, h.fit, hf, h.cl, h.cf⟩
      · have := h.n0; show 1 ≤ S.nx + 1; omega
      · show S.nx + 1 ≤ _; omega
      · intro x hx; have := h.lt x hx; show x.s < S.nx + 1; omega
      · show o.s < S.nx + 1; omega
      · intro x hx; have := h.lt x hx; show x.s ≠ o.s; omega
  · rw [putS_no c]; exact h
theorem oks_cutC {S : Sm} {ps : List (Int × Int)} (h : Oks S) (hl : ps.length = S.ct.length) (hf : ∀ p ∈ ps, J64 p.1 ∧ J64 p.2) : Oks (cutC S ps) := by
  refine ⟨h.r0, h.r1, h.rr, h.s0, h.s1, h.h0, h.h1, h.n0, h.n1, h.len, h.lt, h.gt, h.srt, h.ml, h.mne, h.fit, h.mf, ?_, ?_⟩
  · show ((List.zipWith mxP S.ct ps).length : Int) = lanS S
    rw [List.length_zipWith, hl, Nat.min_self]; exact h.cl
  · intro p hp
    obtain ⟨i, hi⟩ := List.mem_iff_getElem?.1 hp
    have hi' : (List.zipWith mxP S.ct ps)[i]? = some p := hi
    rw [List.getElem?_zipWith] at hi'
    cases h1 : S.ct[i]? with
    | none => rw [h1] at hi'; simp at hi'
    | some c =>
      cases h2 : ps[i]? with
      | none => rw [h1, h2] at hi'; simp at hi'
      | some q =>
        rw [h1, h2] at hi'
        simp at hi'
        subst hi'
        unfold mxP
        split
        · exact hf q (List.mem_of_getElem? h2)
        · exact h.cf c (List.mem_of_getElem? h1)
theorem oks_drp {S : Sm} (h : Oks S) : Oks (drpS S) := by
  have hm : ∀ o, o ∈ (drpS S).ho → o ∈ S.ho := fun o ho => (List.mem_filter.1 ho).1
  refine ⟨h.r0, h.r1, h.rr, h.s0, h.s1, h.h0, h.h1, h.n0, h.n1, ?_, fun o ho => h.lt o (hm o ho), fun o ho => h.gt o (hm o ho), ?_, h.ml, fun o ho => h.mne o (hm o ho), fun o ho => h.fit o (hm o ho), h.mf, h.cl, h.cf⟩
  · have := h.len
    have : (drpS S).ho.length ≤ S.ho.length := List.length_filter_le _ _
    omega
  · exact h.srt.filter _
theorem oks_cut {S : Sm} {ps : List (Int × Int)} (h : Oks S) (hl : ps.length = S.ct.length) (hf : ∀ p ∈ ps, J64 p.1 ∧ J64 p.2) : Oks (cutS S ps) := oks_drp (oks_cutC h hl hf)
end Go.Proofs.Ytfnageillhpjpaa
namespace Go.Proofs.Ytfnageillhpjpaa
set_option maxRecDepth 100000
open Go.RowKit
set_option linter.unusedVariables false
theorem res_fold (p : Prop) [Decidable p] (b : Bool) (w : World) : (if p then Result.ok b w else Result.ok false w) = Result.ok (decide p && b) w := by
  by_cases h : p <;> simp [h]
attribute [local go_sem] res_fold

/-- A number into a cell of a block, at one operation. -/
theorem stI {o : Oper} {a : Act} {w : World} {K : Act → World → Prop} {Q : Exit → Act → World → Prop} (d : Option Tmp) (hd : o.dst = d) {x y : Operand} (ho : o.op = .store 3 x y) {b i : Nat} {vs : Array Value} {t : TypeId} {n : Int} {old : Value} (hB : Blk w b vs t)
    (hx : a.eval x = .pointer (some ⟨b, i, none⟩)) (hy : a.eval y = .int .i64 n) (hi : vs[i]? = some old)
    (h : ∀ W', Blk W' b (vs.setIfInBounds i (.int .i64 n)) t → Chg b w W' → K (a.put d undef) W') : o.wp Try.prog a w K Q := by
  subst hd
  have c := hB.at hi
  have f := hB.frozen i
  have h' := h _ (hB.set i (.int .i64 n)) (chg_set w b i _)
  unfold Oper.wp execOp
  simp only [ho, hx, hy]
  go_simp
  exact h'

theorem chg_cell {b c o : Nat} {W W' : World} {v : Value} (h : Chg b W W') (hc : W.cell? ⟨c, o, none⟩ = some v) (hne : c ≠ b) : W'.cell? ⟨c, o, none⟩ = some v := by
  rw [← hc]
  unfold World.cell?
  rw [h.other c hne]
theorem bid_l {ops : Array Oper} {rest : List Oper} {o : Oper} {a : Act} {w : World} {Q : Exit → Act → World → Prop} (hw : Region.wanted o (yielded ops a.tmps) = true) {parts : Array (Nat × Operand)} (ho : o.op = .buildSlice 44 1 parts) (x y z : Int)
    (hl : parts.map (fun (i, x) => (i, a.eval x)) = #[(0, .agg #[.int .i64 x, .int .i64 y, .int .i64 z])])
    (h : ∀ W', Blk W' w.heap.size #[.int .i64 x, .int .i64 y, .int .i64 z] 47 → Below w.heap.size w W' → wpList Try.prog ops Q rest (a.put o.dst (.slice (some ⟨w.heap.size, 0, none⟩) 1 1)) W') : wpList Try.prog ops Q (o :: rest) a w := by
  unfold wpList
  rw [if_pos hw]
  left
  exact bidW o.dst rfl ho x y z hl h

set_option maxRecDepth 100000 in
set_option maxHeartbeats 1000000 in
theorem rids_any (s0 s1 t key s4 : Int) (q : Option Addr) (g off n cap : Nat) (l : List Int) (sh : Int) (w : World) (hn : l.length = n) (hb : n ≤ 100000) (hp : 0 < n → q = some ⟨g, off, none⟩) (hg : 0 < n → g < w.heap.size) (hr : IRow w g off l)
    (t0 : -9223372036854775808 ≤ t) (t1 : t ≤ 9223372036854775807) (k0 : -9223372036854775808 ≤ key) (k1 : key ≤ 9223372036854775807) (h1 : sh ≤ 9223372036854775807) (hl : ∀ (j : Nat) (r : Int), l[j]? = some r → r ≤ 9223372036854775807) :
    Calls Try.prog 9 #[Opv s0 s1 t key s4, .slice q n cap, .int .i64 sh] w fun e w' => ∃ v, e = .returned v ∧ w'.ownsRow w.heap.size 47 3 v n (flat3 (idL t key sh l)) ∧ Below w.heap.size w w' := by
  go_enter Try.func9, Try.ntmps9
  go_upto_region 1 with fail
  obtain ⟨A, hE, hO, hwA⟩ := blk1 w #[.int .i64 s0, .int .i64 s1, .int .i64 t, .int .i64 key, .int .i64 s4] 27
  rw [hE]
  have hrA := irow_keep hr (by omega) hwA
  have hgA : 0 < n → g < A.heap.size := fun h => Nat.lt_of_lt_of_le (hg h) hwA.size
  clear hE hr hg
  go_wp2_with fail
  go_loopw [7, 8] (fun v i wr => ∃ k : Nat, k ≤ n ∧ i = .int .i64 (k : Int) ∧ wr.ownsRow A.heap.size 47 3 v k (flat3 (idL t key sh (l.take k))) ∧ Below A.heap.size A wr) (fun _ i _ => n - (intOf i).toNat)
  case atStart => exact ⟨0, by omega, rfl, World.ownsRow_nil _ _ _ _, Below.refl _ _⟩
  case round =>
    obtain ⟨k, hk, rfl, hown, hw⟩ := hrel
    by_cases c : k = n
    · subst c
      rw [List.take_of_length_le (by omega)] at hown
      clear hrA hl
      go_wp2_with fail
      go_ret
      exact ⟨_, rfl, own_less hown hwA.size, ab_trans hwA hw⟩
    · obtain ⟨r, hrk⟩ : ∃ r, l[k]? = some r := ⟨l[k], List.getElem?_eq_getElem (by omega)⟩
      obtain rfl := hp (by omega)
      have hgk := hgA (by omega)
      have cr := (hw.cell (p := ⟨g, off + k, none⟩) hgk).trans (hrA k r hrk)
      have hrm := hl k r hrk
      have hki : (k : Int) < (n : Int) := by omega
      have HLN : Hid (wrap64 (wrap64 ((k : Int) * sh) + flM key sh) = lnN (k : Int) (flM key sh) sh) := by show _ = _; unfold lnN wrap64; omega
      have HI : Hid (flat3 (idL t key sh (l.take k)) ++ [.int .i64 (lnN (k : Int) (flM key sh) sh), .int .i64 (flD t r), .int .i64 key] = flat3 (idL t key sh (l.take (k + 1)))) := by
        show _ = _
        rw [idL_snoc t key sh l k r hrk, flat3_append]; rfl
      have hOr := hO.keep hw
      obtain ⟨-, -, z2, z3, -⟩ := hOr.five
      have hOl := hOr.lt
      have hgw := Nat.lt_of_lt_of_le hgk hw.size
      clear hl hrA hp hgA hrk
      go_upto_region 6 with (go_at_call 27; refine (rmod_any _ _ _ k0 k1 h1).mono ?_; rintro e W2 ⟨rfl, rfl⟩)
      obtain ⟨V, hE, hX, hV⟩ := blk1 W2 #[.int .i64 (wrap64 (wrap64 ((k : Int) * sh) + flM key sh)), .int .i64 0, .int .i64 0] 47
      rw [hE]
      have d2 := keep_cell hV z2 hOl
      have d3 := keep_cell hV z3 hOl
      have dr := keep_cell hV cr hgw
      have hne : w.heap.size ≠ W2.heap.size := by omega
      have hneg : g ≠ W2.heap.size := by omega
      clear hE z2 z3 cr hOr
      refine wp_region_held_drew (S := fun w' => w'.cell? ⟨w.heap.size, 2, none⟩ = some (.int .i64 t) ∧ w'.cell? ⟨w.heap.size, 3, none⟩ = some (.int .i64 key) ∧ w'.cell? ⟨g, off + k, none⟩ = some (.int .i64 r) ∧ Below W2.heap.size W2 w') (by kernel_rfl) ⟨d2, d3, dr, ab_drew hV⟩ (fun hHeld => ?_)
      have hX0 := hX.drew
      clear hX d2 d3 dr hV
      refine takeH (i := 0) (some 25) rfl rfl (by kernel_rfl) (by kernel_rfl) (by kernel_rfl) (fun _ _ _ h => h) (by rfl) (fun w hSw => by (try dsimp only at hSw); go_simp; try rfl) hHeld ?_
      go_frame
      refine takeH (i := 1) (some 26) rfl rfl (by kernel_rfl) (by kernel_rfl) (by kernel_rfl) (fun _ _ _ h => h) (by rfl) (fun w hSw => by (try dsimp only at hSw); (obtain ⟨q2, q3, q4, -⟩ := hSw; go_simp; try rfl)) hHeld ?_
      go_frame
      refine takeH (i := 2) (some 27) rfl rfl (by kernel_rfl) (by kernel_rfl) (by kernel_rfl) (fun _ _ _ h => h) (by rfl) (fun w hSw => by (try dsimp only at hSw); go_simp; try rfl) hHeld ?_
      go_frame
      refine takeH (i := 3) (some 28) rfl rfl (by kernel_rfl) (by kernel_rfl) (by kernel_rfl) (fun _ _ _ h => h) (by rfl) (fun w hSw => by (try dsimp only at hSw); go_simp; try rfl) hHeld ?_
      go_frame
      refine takeH (i := 4) (some 29) rfl rfl (by kernel_rfl) (by kernel_rfl) (by kernel_rfl) (fun _ _ _ h => h) (by rfl) (fun w hSw => by (try dsimp only at hSw); go_simp; try rfl) hHeld ?_
      go_frame
      refine takeH (i := 5) (some 30) rfl rfl (by kernel_rfl) (by kernel_rfl) (by kernel_rfl) (fun _ _ _ h => h) (by rfl) (fun w hSw => by (try dsimp only at hSw); (obtain ⟨q2, q3, q4, -⟩ := hSw; go_simp; try rfl)) hHeld ?_
      go_frame
      refine wpAnyH_ready (rs := [6]) (by kernel_rfl) (by simp) (AllReadyH.cons rfl (fun K hK => ?_) AllReadyH.nil)
      go_simp
      refine (rdiv_any _ _ _ t0 t1 hrm).mono ?_
      rintro e W3 ⟨rfl, hE3⟩
      rw [hE3]
      show K _ _
      refine hK.out _ _ hHeld (fun hHeld => ?_)
      clear hK K hE3
      refine takeH (i := 7) (some 32) rfl rfl (by kernel_rfl) (by kernel_rfl) (by kernel_rfl) (fun _ _ _ h => h) (by rfl) (fun w hSw => by (try dsimp only at hSw); go_simp; try rfl) hHeld ?_
      go_frame
      refine takeH (i := 8) (some 33) rfl rfl (by kernel_rfl) (by kernel_rfl) (by kernel_rfl) (fun _ _ _ h => h) (by rfl) (fun w hSw => by (try dsimp only at hSw); go_simp; try rfl) hHeld ?_
      go_frame
      refine wpAnyH_ready (rs := [9]) (by kernel_rfl) (by simp) (AllReadyH.cons rfl (fun K hK => ?_) AllReadyH.nil)
      rw [if_pos (by rfl)]
      refine stI none rfl rfl hX0 rfl rfl rfl fun W4 hX4 C4 => ?_
      refine hK.out _ _ ⟨chg_cell C4 hHeld.1 hne, chg_cell C4 hHeld.2.1 hne, chg_cell C4 hHeld.2.2.1 hneg, ab_chg hHeld.2.2.2 C4 (Nat.le_refl _)⟩ (fun hHeld => ?_)
      clear hK K C4 hX0
      refine wpAnyH_done (by kernel_rfl) ?_ _
      rw [HLN.out] at hX4
      have hX4' : Blk W4 W2.heap.size #[.int .i64 (lnN (k : Int) (flM key sh) sh), .int .i64 (flD t r), .int .i64 0] 47 := by simpa using hX4
      have e3 := hHeld.2.1
      have c2 := hX4'.at (i := 2) rfl
      have f2 := hX4'.frozen 2
      have hw4 := hHeld.2.2.2
      clear hX4 hHeld
      go_frame
      go_upto_region 8 with fail
      have hX5 := hX4'.set 2 (.int .i64 key)
      have hX5' : Blk (W4.setCell ⟨W2.heap.size, 2, none⟩ (.int .i64 key)) W2.heap.size #[.int .i64 (lnN (k : Int) (flM key sh) sh), .int .i64 (flD t r), .int .i64 key] 47 := by simpa using hX5
      have hw5 := ab_chg hw4 (chg_set W4 W2.heap.size 2 (.int .i64 key)) (Nat.le_refl _)
      clear hX5 c2 f2 e3 hX4' hw4
      generalize W4.setCell ⟨W2.heap.size, 2, none⟩ (.int .i64 key) = W5 at *
      have hown5 := own_keep hown hw5
      have hwA5 := ab_trans hw hw5
      have y0 := hX5'.at (i := 0) rfl
      have y1 := hX5'.at (i := 1) rfl
      have y2 := hX5'.at (i := 2) rfl
      dsimp only [List.size_toArray, List.getElem_toArray, List.getElem_cons_zero, List.getElem_cons_succ] at y0 y1 y2
      go_wp2_with (first
        | (refine bid_l rfl rfl (lnN (k : Int) (flM key sh) sh) (flD t r) key (by simp only [List.map_toArray, List.map_cons, List.map_nil]; rfl) ?_; intro W6 hB6 b6)
        | (at_builtin; refine app_own A rfl rfl Try.underlying44 infoId rfl (by omega) rfl (own_keep hown5 b6) [.int .i64 (lnN (k : Int) (flM key sh) sh), .int .i64 (flD t r), .int .i64 key] rfl (fun h => by cases h) rfl ?c1 ?c2 (by unfold maxLen; omega) (by omega) (ab_trans hwA5 b6) ?_))
      case c1 =>
        intro ad had j u hu
        cases had
        rw [Addr.add_mid, Nat.zero_add, hB6.cell]; simpa using hu
      case c2 => simp [Value.oneCell']
      intro v' W7 hown' hnil hb7 hgr
      rw [HI.out] at hown'
      go_wp2_with fail
      go_roundw
      case rel => exact ⟨k + 1, by omega, by go_num, hown', hb7⟩
      case measure => simp [intOf]; omega

/-- Of how many cells that is so. -/
def cnt (pls : List (Int × Int)) (L : List (Int × Int × Int)) : Nat := (L.filter (cov1 pls)).length
theorem cnt_le (pls : List (Int × Int)) (L : List (Int × Int × Int)) : cnt pls L ≤ L.length := List.length_filter_le _ _
theorem cnt_all (pls : List (Int × Int)) (L : List (Int × Int × Int)) : covL pls L = (decide (cnt pls L = L.length) && decide (0 < cnt pls L)) := by
  unfold covL cnt
  by_cases h : (L.filter (cov1 pls)).length = L.length
  · have h2 : L.all (cov1 pls) = true := by
      rw [List.all_eq_true]
      exact List.length_filter_eq_length_iff.1 h
    rw [h2, h]; simp
  · have h2 : L.all (cov1 pls) = false := by
      rw [List.all_eq_false]
      apply Classical.byContradiction
      intro hx
      apply h
      rw [List.length_filter_eq_length_iff]
      intro a ha
      cases hc : cov1 pls a
      · exact absurd ⟨a, ha, by rw [hc]; simp⟩ hx
      · rfl
    rw [h2]; simp [h]
theorem cnt_snoc (pls : List (Int × Int)) (L : List (Int × Int × Int)) (k : Nat) (x : Int × Int × Int) (hx : L[k]? = some x) : cnt pls (L.take (k + 1)) = cnt pls (L.take k) + (if cov1 pls x then 1 else 0) := by
  unfold cnt
  rw [List.take_add_one, hx]
  simp only [Option.toList_some, List.filter_append, List.length_append]
  cases hc : cov1 pls x <;> simp [hc]

end Go.Proofs.Ytfnageillhpjpaa
