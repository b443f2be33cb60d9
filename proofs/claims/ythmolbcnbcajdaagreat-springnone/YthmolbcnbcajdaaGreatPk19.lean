/-
  The chapter's examples: estuarylaw03.alive.
  What is covered: place.Covered, with its closure, and slices.ContainsFunc at it.
  Plain mathematics of streams: what their calls answer and leave.
-/
import Derived.Test.YthmolbcnbcajdaaGreatPk18
import Derived.Lib.SmallJoins
namespace Go.Proofs.YthmolbcnbcajdaaGreat
set_option maxRecDepth 100000
open Go.RowKit
set_option linter.unusedVariables false

theorem idL_ex : idL (-1) 5 2 [10, 60] = [(1, -1, 5), (3, -1, 5)] := by decide +kernel
end Go.Proofs.YthmolbcnbcajdaaGreat
namespace Go.Proofs.YthmolbcnbcajdaaGreat
set_option maxRecDepth 100000
open Go.RowKit
set_option linter.unusedVariables false

/-- A cell is ahead of its lane's place. -/
def cov1 (pls : List (Int × Int)) (x : Int × Int × Int) : Bool := if 0 ≤ x.1 then (match pls[x.1.toNat]? with | some p => pl x.2.1 x.2.2 p.1 p.2 | none => false) else false
def covL (pls : List (Int × Int)) (L : List (Int × Int × Int)) : Bool := decide (0 < L.length) && L.all (cov1 pls)
theorem cov_neg {pls : List (Int × Int)} {l a k : Int} (h : l < 0) : cov1 pls (l, a, k) = false := by unfold cov1; rw [if_neg (by dsimp only; omega)]
theorem cov_far {pls : List (Int × Int)} {l a k : Int} {n : Nat} (hn : pls.length = n) (h : (n : Int) ≤ l) : cov1 pls (l, a, k) = false := by
  unfold cov1; dsimp only; rw [if_pos (by omega), List.getElem?_eq_none (by omega)]
theorem cov_at {pls : List (Int × Int)} {m : Nat} {a k : Int} {p : Int × Int} (h : pls[m]? = some p) : cov1 pls ((m : Int), a, k) = pl a k p.1 p.2 := by
  unfold cov1; dsimp only; rw [if_pos (by omega), Int.toNat_natCast, h]

set_option maxHeartbeats 400000 in
theorem bare_any (l a k : Int) (b : Nat) (q : Option Addr) (g off n cap : Nat) (pls : List (Int × Int)) (w : World) (hb : w.cell? ⟨b, 0, none⟩ = some (.slice q n cap)) (hbl : b < w.heap.size) (hn : pls.length = n) (hp : 0 < n → q = some ⟨g, off, none⟩) (hg : 0 < n → g < w.heap.size) (hr : Row2 w g off pls) :
    Calls Tryz.prog 92 #[.agg #[.int .i64 l, .int .i64 a, .int .i64 k], .pointer (some ⟨b, 0, none⟩)] w fun e w' => e = .returned (.bool (!cov1 pls (l, a, k))) ∧ Below w.heap.size w w' := by
  have hne : b ≠ w.heap.size := by omega
  by_cases c : l < 0
  · have HV : Hid ((!cov1 pls (l, a, k)) = true) := by show _ = _; rw [cov_neg c]; rfl
    have c1 : decide (0 ≤ l) = false := decide_eq_false (by omega)
    clear hr hp hg c
    go_enter Tryz.func92, Tryz.ntmps92
    go_upto_region 2 with fail
    go_quiet (fail)
    go_wp2_with fail
    go_ret
    exact ⟨by rw [HV.out]; rfl, ab_drewN (ab_alloc (Below.refl _ _) _) _⟩
  · by_cases d : (n : Int) ≤ l
    · have HV : Hid ((!cov1 pls (l, a, k)) = true) := by show _ = _; rw [cov_far hn d]; rfl
      have c1 : decide (0 ≤ l) = true := decide_eq_true (by omega)
      have c2 : decide (l < (n : Int)) = false := decide_eq_false (by omega)
      clear hr hp hg c d
      go_enter Tryz.func92, Tryz.ntmps92
      go_upto_region 2 with fail
      go_quiet (fail)
      go_wp2_with fail
      go_ret
      exact ⟨by rw [HV.out]; rfl, ab_drewN (ab_alloc (Below.refl _ _) _) _⟩
    · obtain ⟨m, rfl⟩ : ∃ m : Nat, l = (m : Int) := ⟨l.toNat, by omega⟩
      have hm : m < n := by omega
      obtain ⟨p, hpm⟩ : ∃ p, pls[m]? = some p := ⟨pls[m], List.getElem?_eq_getElem (by omega)⟩
      have HV : Hid ((!cov1 pls ((m : Int), a, k)) = !pl a k p.1 p.2) := by show _ = _; rw [cov_at hpm]
      obtain ⟨r1, r2⟩ := hr m p hpm
      obtain rfl := hp (by omega)
      have hg' := hg (by omega)
      have hne2 : g ≠ w.heap.size := by omega
      have hmi : (m : Int) < (n : Int) := by omega
      clear hr hp hg c d
      go_enter Tryz.func92, Tryz.ntmps92
      go_upto_region 2 with fail
      obtain ⟨A, hE, hI, hw⟩ := blk1 w #[.int .i64 (m : Int), .int .i64 a, .int .i64 k] 145
      rw [hE]
      clear hE
      have x0 := cls_cell (hI.at (i := 0) rfl) hI.lt
      have x1 := cls_cell (hI.at (i := 1) rfl) hI.lt
      have x2 := cls_cell (hI.at (i := 2) rfl) hI.lt
      have x3 := cls_cell (keep_cell hw hb hbl) (Nat.lt_of_lt_of_le hbl hw.size)
      have x4 := cls_cell (keep_cell hw r1 hg') (Nat.lt_of_lt_of_le hg' hw.size)
      have x5 := cls_cell (keep_cell hw r2 hg') (Nat.lt_of_lt_of_le hg' hw.size)
      clear hI hb r1 r2
      dsimp only [List.size_toArray, List.getElem_toArray, List.getElem_cons_zero, List.getElem_cons_succ] at x0 x1 x2
      refine wp_region_below (by kernel_rfl) (by kernel_rfl) ?_
      have HZ := cls_some A
      repeat (go_big_quiet_step (first
        | (go_at_call 70; exact calls_below (pless_any _ _ _ _ _))))
      refine wpQuiet_nil ?_
      rintro _ ⟨x, rfl⟩
      go_wp2_with fail
      go_ret
      exact ⟨by rw [HV.out]; rfl, ab_trans hw x.prop⟩

/-- The function value that asks. -/
abbrev bareV (b : Nat) : Value := .func (.func 92) #[] #[.pointer (some ⟨b, 0, none⟩)]
theorem index_any (q' : Option Addr) (g' off' n' cap' : Nat) (L : List (Int × Int × Int)) (b : Nat) (q : Option Addr) (g off n cap : Nat) (pls : List (Int × Int)) (w : World)
    (hn' : L.length = n') (hp' : 0 < n' → q' = some ⟨g', off', none⟩) (hg' : 0 < n' → g' < w.heap.size) (hr' : Row3 w g' off' L) (hm' : n' ≤ 100000)
    (hb : w.cell? ⟨b, 0, none⟩ = some (.slice q n cap)) (hbl : b < w.heap.size) (hn : pls.length = n) (hp : 0 < n → q = some ⟨g, off, none⟩) (hg : 0 < n → g < w.heap.size) (hr : Row2 w g off pls) :
    Calls Tryz.prog 107 #[.slice q' n' cap', bareV b] w fun e w' => ∃ i : Int, e = .returned (.int .i64 i) ∧ decide (0 ≤ i) = (!L.all (cov1 pls)) ∧ Below w.heap.size w w' := by
  go_enter Tryz.func107, Tryz.ntmps107
  go_wp2_with fail
  go_loopw [8] (fun i wr => ∃ k : Nat, k ≤ n' ∧ i = .int .i64 (k : Int) ∧ (∀ x ∈ L.take k, cov1 pls x = true) ∧ Below w.heap.size w wr) (fun i _ => n' - (intOf i).toNat)
  case atStart => exact ⟨0, by omega, rfl, fun x hx => by simp at hx, Below.refl _ _⟩
  case round =>
    obtain ⟨k, hk, rfl, hall, hw⟩ := hrel
    by_cases c : k = n'
    · subst c
      have HV : Hid ((!L.all (cov1 pls)) = false) := by
        show _ = _
        rw [List.take_of_length_le (by omega)] at hall
        simp only [Bool.not_eq_false', List.all_eq_true]
        exact hall
      clear hall hr hr'
      go_wp2_with fail
      go_ret
      exact ⟨-1, rfl, by rw [HV.out]; rfl, hw⟩
    · obtain ⟨x, hx⟩ : ∃ x, L[k]? = some x := ⟨L[k], List.getElem?_eq_getElem (by omega)⟩
      obtain ⟨x0, x1, x2⟩ := hr' k x hx
      obtain rfl := hp' (by omega)
      have hgk := hg' (by omega)
      have y0 := keep_cell hw x0 hgk
      have y1 := keep_cell hw x1 hgk
      have y2 := keep_cell hw x2 hgk
      have hki : (k : Int) < (n' : Int) := by omega
      have hb1 := keep_cell hw hb hbl
      have hr1 := row2_keep hr (by omega) hw
      have hg1 : 0 < n → g < wr.heap.size := fun h => Nat.lt_of_lt_of_le (hg h) hw.size
      have hbl1 := Nat.lt_of_lt_of_le hbl hw.size
      obtain ⟨xl, xa, xk⟩ := x
      dsimp only at y0 y1 y2
      clear x0 x1 x2 hr' hr hb
      cases hc : cov1 pls (xl, xa, xk)
      · have HV : Hid ((!L.all (cov1 pls)) = true) := by
          show _ = _
          simp only [Bool.not_eq_true', List.all_eq_false]
          exact ⟨_, List.mem_of_getElem? hx, by rw [hc]; simp⟩
        clear hall hx
        go_wp2_with (go_at_call 92; refine (bare_any xl xa xk b q g off n cap pls _ hb1 hbl1 hn hp hg1 hr1).mono ?_; rintro e W2 ⟨rfl, b2⟩; rw [hc])
        go_ret
        exact ⟨(k : Int), rfl, by rw [HV.out]; exact decide_eq_true (by omega), ab_trans hw b2⟩
      · have HV : Hid (∀ x ∈ L.take (k + 1), cov1 pls x = true) := by
          intro x hm
          rw [List.take_add_one, hx] at hm
          simp only [Option.toList_some, List.mem_append, List.mem_singleton] at hm
          rcases hm with hm | rfl
          · exact hall x hm
          · exact hc
        clear hall hx
        go_wp2_with (go_at_call 92; refine (bare_any xl xa xk b q g off n cap pls _ hb1 hbl1 hn hp hg1 hr1).mono ?_; rintro e W2 ⟨rfl, b2⟩; rw [hc])
        go_roundw
        case rel => exact ⟨k + 1, by omega, by go_num, HV.out, ab_trans hw b2⟩
        case measure => simp [intOf]; omega

theorem contains_any (q' : Option Addr) (g' off' n' cap' : Nat) (L : List (Int × Int × Int)) (b : Nat) (q : Option Addr) (g off n cap : Nat) (pls : List (Int × Int)) (w : World)
    (hn' : L.length = n') (hp' : 0 < n' → q' = some ⟨g', off', none⟩) (hg' : 0 < n' → g' < w.heap.size) (hr' : Row3 w g' off' L) (hm' : n' ≤ 100000)
    (hb : w.cell? ⟨b, 0, none⟩ = some (.slice q n cap)) (hbl : b < w.heap.size) (hn : pls.length = n) (hp : 0 < n → q = some ⟨g, off, none⟩) (hg : 0 < n → g < w.heap.size) (hr : Row2 w g off pls) :
    Calls Tryz.prog 94 #[.slice q' n' cap', bareV b] w fun e w' => e = .returned (.bool (!L.all (cov1 pls))) ∧ Below w.heap.size w w' := by
  go_enter Tryz.func94, Tryz.ntmps94
  go_wp2_with fail
  refine (index_any q' g' off' n' cap' L b q g off n cap pls w hn' hp' hg' hr' hm' hb hbl hn hp hg hr).mono ?_
  rintro e w' ⟨i, rfl, hi, hw⟩
  have HI : Hid (_ = _) := hi
  clear hr hr' hi
  go_wp2_with fail
  go_ret
  exact ⟨ret_bool HI.out, hw⟩

set_option maxHeartbeats 400000 in
theorem covered_any (s0 s1 t key s4 : Int) (q : Option Addr) (g off n cap : Nat) (l : List Int) (sh : Int) (q2 : Option Addr) (g2 off2 n2 cap2 : Nat) (pls : List (Int × Int)) (w : World) (hn : l.length = n) (hb : n ≤ 100000) (hp : 0 < n → q = some ⟨g, off, none⟩) (hg : 0 < n → g < w.heap.size) (hr : IRow w g off l)
    (t0 : -9223372036854775808 ≤ t) (t1 : t ≤ 9223372036854775807) (k0 : -9223372036854775808 ≤ key) (k1 : key ≤ 9223372036854775807) (h1 : sh ≤ 9223372036854775807) (hl : ∀ (j : Nat) (r : Int), l[j]? = some r → r ≤ 9223372036854775807)
    (hn2 : pls.length = n2) (hp2 : 0 < n2 → q2 = some ⟨g2, off2, none⟩) (hg2 : 0 < n2 → g2 < w.heap.size) (hr2 : Row2 w g2 off2 pls) :
    Calls Tryz.prog 72 #[Opv s0 s1 t key s4, .slice q n cap, .int .i64 sh, .slice q2 n2 cap2] w fun e w' => e = .returned (.bool (covL pls (idL t key sh l))) ∧ Below w.heap.size w w' := by
  go_enter Tryz.func72, Tryz.ntmps72
  go_upto_region 1 with fail
  obtain ⟨A, hE, hO, hX, hw⟩ := blk2 w #[.int .i64 s0, .int .i64 s1, .int .i64 t, .int .i64 key, .int .i64 s4] #[.slice q2 n2 cap2] 30 61
  rw [hE]
  have hrA := irow_keep hr (by omega) hw
  have hgA : 0 < n → g < A.heap.size := fun h => Nat.lt_of_lt_of_le (hg h) hw.size
  have hrA2 := row2_keep hr2 (by omega) hw
  have hgA2 : 0 < n2 → g2 < A.heap.size := fun h => Nat.lt_of_lt_of_le (hg2 h) hw.size
  obtain ⟨z0, z1, z2, z3, z4⟩ := hO.five
  clear hE hr hg hr2 hg2
  go_upto_region 3 with (go_at_call 93; refine (ids_any s0 s1 t key s4 q g off n cap l sh A hn hb hp hgA hrA t0 t1 k0 k1 h1 hl).mono ?_; rintro e W2 ⟨v, rfl, hown, hv, b2⟩)
  obtain ⟨hlen, q3, g3, cap3, rfl, hq3, hg3, -, -, -, -, hr3, -⟩ := own_row3 hown
  have hrB2 := row2_keep hrA2 (by omega) b2
  have hgB2 : 0 < n2 → g2 < W2.heap.size := fun h => Nat.lt_of_lt_of_le (hgA2 h) b2.size
  have hX2 := (hX.keep b2).at (i := 0) rfl
  have hXl := (hX.keep b2).lt
  have hw2 := ab_trans hw b2
  clear hO hX hw b2 hrA hgA hrA2 hgA2 z0 z1 z2 z3 z4 hown hv hp hl
  by_cases c : n = 0
  · have HV : Hid (covL pls (idL t key sh l) = false) := by show _ = _; unfold covL; rw [hlen, c]; rfl
    subst c
    clear hr3 hrB2
    go_wp2_with fail
    go_ret
    exact ⟨by rw [HV.out]; rfl, hw2⟩
  · have HV : Hid (covL pls (idL t key sh l) = (idL t key sh l).all (cov1 pls)) := by
      show _ = _; unfold covL; rw [hlen, decide_eq_true (by omega)]; simp
    have h0 : 0 < n := by omega
    have h0i : (0 : Int) < (n : Int) := by omega
    obtain rfl := hq3 h0
    clear hq3
    go_wp2_with (go_at_call 94; refine (contains_any _ g3 0 n cap3 (idL t key sh l) (w.heap.size + 1) q2 g2 off2 n2 cap2 pls W2 hlen (fun _ => rfl) hg3 hr3 hb hX2 hXl hn2 hp2 hgB2 hrB2).mono ?_; rintro e W3 ⟨rfl, b3⟩)
    go_ret
    exact ⟨by rw [HV.out]; rfl, ab_trans hw2 b3⟩
end Go.Proofs.YthmolbcnbcajdaaGreat
namespace Go.Proofs.YthmolbcnbcajdaaGreat
set_option maxRecDepth 100000
open Go.RowKit
set_option linter.unusedVariables false

/-- An operation: its number, kind, time, key, value. -/
structure Op5 where
  s : Int
  k : Int
  t : Int
  y : Int
  v : Int
  deriving DecidableEq
def zOp : Op5 := ⟨0, 0, 0, 0, 0⟩
/-- A stream. -/
structure Sm where
  res : List Int
  sh : Int
  hd : Int
  nx : Int
  mr : Op5
  ho : List Op5
  ct : List (Int × Int)
def mkd (S : Sm) : Bool := decide (S.mr ≠ zOp)
def pas (S : Sm) (t : Int) : Bool := mkd S && decide (t < S.mr.t)
def sampN (S : Sm) (t : Int) : Nat := if pas S t = true then 8 else if S.hd ≤ (S.ho.length : Int) then 10 else 0
def sampO (S : Sm) (t y v : Int) : Op5 := if sampN S t = 0 then ⟨S.nx, 1, t, y, v⟩ else zOp
def markN (S : Sm) (t : Int) : Nat := if pas S t = true then 9 else 0
def markO (S : Sm) (t : Int) : Op5 := if markN S t = 0 then ⟨S.nx, 2, t, 0, 0⟩ else zOp
def putN (S : Sm) (o : Op5) : Nat := if o.s ≠ S.nx then 2 else if o.k = 1 then (if pas S o.t = true then 8 else 0) else if o.k = 2 then (if pas S o.t = true then 9 else if o.y = 0 ∧ o.v = 0 then 0 else 2) else 2
def putS (S : Sm) (o : Op5) : Sm := if putN S o = 0 then (if o.k = 1 then { S with ho := S.ho ++ [o], nx := S.nx + 1 } else { S with mr := o, nx := S.nx + 1 }) else S
def lanS (S : Sm) : Int := (S.res.length : Int) * S.sh
def mxP (c p : Int × Int) : Int × Int := if pl c.1 c.2 p.1 p.2 = true then p else c
def cutC (S : Sm) (ps : List (Int × Int)) : Sm := { S with ct := List.zipWith mxP S.ct ps }
def cov5 (S : Sm) (o : Op5) : Bool := covL S.ct (idL o.t o.y S.sh S.res)
def drpS (S : Sm) : Sm := { S with ho := S.ho.filter fun o => !cov5 S o }
def cutS (S : Sm) (ps : List (Int × Int)) : Sm := drpS (cutC S ps)
def newS (res : List Int) (sh hd : Int) : Sm := ⟨res, sh, hd, 1, zOp, [], List.replicate (res.length * sh.toNat) (-9223372036854775808, -9223372036854775808)⟩
def goodF (res : List Int) (sh hd : Int) : Bool := res.all (fun r => decide (1 ≤ r)) && decide (1 ≤ res.length ∧ res.length ≤ 3) && decide (1 ≤ sh ∧ sh ≤ 4) && decide (1 ≤ hd ∧ hd ≤ 64)
/-- A number of a machine. -/
def J64 (x : Int) : Prop := -9223372036854775808 ≤ x ∧ x ≤ 9223372036854775807
structure Fit5 (o : Op5) : Prop where
  s : J64 o.s
  k : J64 o.k
  t : J64 o.t
  y : J64 o.y
  v : J64 o.v
theorem fit_z : Fit5 zOp := by constructor <;> (unfold J64 zOp; dsimp only; omega)
/-- A stream as its calls leave it. -/
structure Oks (S : Sm) : Prop where
  r0 : 1 ≤ S.res.length
  r1 : S.res.length ≤ 3
  rr : ∀ r ∈ S.res, 1 ≤ r ∧ r ≤ 9223372036854775807
  s0 : 1 ≤ S.sh
  s1 : S.sh ≤ 4
  h0 : 1 ≤ S.hd
  h1 : S.hd ≤ 64
  n0 : 1 ≤ S.nx
  n1 : S.nx ≤ 9223372036854775807
  len : S.ho.length ≤ 100000
  lt : ∀ o ∈ S.ho, o.s < S.nx
  gt : ∀ o ∈ S.ho, 0 < o.s
  srt : S.ho.Pairwise fun a b => a.s < b.s
  ml : S.mr.s < S.nx
  mne : ∀ o ∈ S.ho, o.s ≠ S.mr.s
  fit : ∀ o ∈ S.ho, Fit5 o
  mf : Fit5 S.mr
  cl : (S.ct.length : Int) = lanS S
  cf : ∀ p ∈ S.ct, J64 p.1 ∧ J64 p.2
theorem Oks.lan {S : Sm} (h : Oks S) : 1 ≤ lanS S ∧ lanS S ≤ 12 := by
  have h1 := h.r0
  have h2 := h.r1
  have h3 := h.s0
  have h4 := h.s1
  unfold lanS
  constructor
  · have : (1 : Int) * 1 ≤ (S.res.length : Int) * S.sh := Int.mul_le_mul (by omega) h3 (by omega) (by omega)
    omega
  · have : (S.res.length : Int) * S.sh ≤ 3 * 4 := Int.mul_le_mul (by omega) h4 (by omega) (by omega)
    omega
theorem goodF_iff {res : List Int} {sh hd : Int} : goodF res sh hd = true ↔ (∀ r ∈ res, 1 ≤ r) ∧ (1 ≤ res.length ∧ res.length ≤ 3) ∧ (1 ≤ sh ∧ sh ≤ 4) ∧ (1 ≤ hd ∧ hd ≤ 64) := by
  unfold goodF
  simp only [Bool.and_eq_true, decide_eq_true_eq, List.all_eq_true]
  constructor
  · rintro ⟨⟨⟨a, b⟩, c⟩, d⟩; exact ⟨a, b, c, d⟩
  · rintro ⟨a, b, c, d⟩; exact ⟨⟨⟨a, b⟩, c⟩, d⟩
theorem oks_new {res : List Int} {sh hd : Int} (h : goodF res sh hd = true) (hr : ∀ r ∈ res, r ≤ 9223372036854775807) : Oks (newS res sh hd) := by
  obtain ⟨a, b, c, d⟩ := goodF_iff.1 h
  refine ⟨b.1, b.2, fun r h => ⟨a r h, hr r h⟩, c.1, c.2, d.1, d.2, by show (1 : Int) ≤ 1; omega, by show (1 : Int) ≤ 9223372036854775807; omega, by show 0 ≤ 100000; omega, fun o h => (by cases h), fun o h => (by cases h), List.Pairwise.nil, by show (0 : Int) < 1; omega, fun o h => (by cases h), fun o h => (by cases h), fit_z, ?_, ?_⟩
  · show ((List.replicate (res.length * sh.toNat) _).length : Int) = (res.length : Int) * sh
    rw [List.length_replicate, Int.natCast_mul, Int.toNat_of_nonneg (by omega)]
  · intro p hp
    have := List.eq_of_mem_replicate hp
    subst this
    unfold J64
    dsimp only
    omega
theorem putS_sample {S : Sm} {o : Op5} (h : putN S o = 0) (hk : o.k = 1) : putS S o = { S with ho := S.ho ++ [o], nx := S.nx + 1 } := by
  unfold putS; rw [if_pos h, if_pos hk]
theorem putS_mark {S : Sm} {o : Op5} (h : putN S o = 0) (hk : o.k ≠ 1) : putS S o = { S with mr := o, nx := S.nx + 1 } := by
  unfold putS; rw [if_pos h, if_neg hk]
theorem putS_no {S : Sm} {o : Op5} (h : putN S o ≠ 0) : putS S o = S := by
  unfold putS; rw [if_neg h]
theorem putN_seq {S : Sm} {o : Op5} (h : putN S o = 0) : o.s = S.nx := by
  unfold putN at h
  by_cases c : o.s = S.nx
  · exact c
  · rw [if_pos c] at h; cases h
theorem oks_put {S : Sm} {o : Op5} (h : Oks S) (hf : Fit5 o) (hn : S.nx < 9223372036854775807) (hl : S.ho.length < 100000) : Oks (putS S o) := by
  by_cases c : putN S o = 0
  · have hs := putN_seq c
    by_cases k : o.k = 1
    · rw [putS_sample c k]
      refine ⟨h.r0, h.r1, h.rr, h.s0, h.s1, h.h0, h.h1, ?_, ?_, ?_, ?_, ?_, ?_, ?_, ?_, ?_, h.mf, h.cl, h.cf⟩
      · have := h.n0; show 1 ≤ S.nx + 1; omega
      · show S.nx + 1 ≤ _; omega
      · show (S.ho ++ [o]).length ≤ _; rw [List.length_append, List.length_singleton]; omega
      · intro x hx
        show x.s < S.nx + 1
        rcases List.mem_append.1 hx with hx | hx
        · have := h.lt x hx; omega
        · rw [List.mem_singleton.1 hx]; omega
      · intro x hx
        rcases List.mem_append.1 hx with hx | hx
        · exact h.gt x hx
        · rw [List.mem_singleton.1 hx]; have := h.n0; omega
      · refine List.pairwise_append.2 ⟨h.srt, List.pairwise_singleton _ _, fun x hx y hy => ?_⟩
        rw [List.mem_singleton.1 hy, hs]
        exact h.lt x hx
      · have := h.ml; show S.mr.s < S.nx + 1; omega
      · intro x hx
        show x.s ≠ S.mr.s
        rcases List.mem_append.1 hx with hx | hx
        · exact h.mne x hx
        · rw [List.mem_singleton.1 hx]; have := h.ml; omega
      · intro x hx
        rcases List.mem_append.1 hx with hx | hx
        · exact h.fit x hx
        · rw [List.mem_singleton.1 hx]; exact hf
    · rw [putS_mark c k]
      refine ⟨h.r0, h.r1, h.rr, h.s0, h.s1, h.h0, h.h1, ?_, ?_, h.len, ?_, h.gt, h.srt, ?_, ?_, h.fit, hf, h.cl, h.cf⟩
      · have := h.n0; show 1 ≤ S.nx + 1; omega
      · show S.nx + 1 ≤ _; omega
      · intro x hx; have := h.lt x hx; show x.s < S.nx + 1; omega
      · show o.s < S.nx + 1; omega
      · intro x hx; have := h.lt x hx; show x.s ≠ o.s; omega
  · rw [putS_no c]; exact h
theorem oks_cutC {S : Sm} {ps : List (Int × Int)} (h : Oks S) (hl : ps.length = S.ct.length) (hf : ∀ p ∈ ps, J64 p.1 ∧ J64 p.2) : Oks (cutC S ps) := by
  refine ⟨h.r0, h.r1, h.rr, h.s0, h.s1, h.h0, h.h1, h.n0, h.n1, h.len, h.lt, h.gt, h.srt, h.ml, h.mne, h.fit, h.mf, ?_, ?_⟩
  · show ((List.zipWith mxP S.ct ps).length : Int) = lanS S
    rw [List.length_zipWith, hl, Nat.min_self]; exact h.cl
  · intro p hp
    obtain ⟨i, hi⟩ := List.mem_iff_getElem?.1 hp
    have hi' : (List.zipWith mxP S.ct ps)[i]? = some p := hi
    rw [List.getElem?_zipWith] at hi'
    cases h1 : S.ct[i]? with
    | none => rw [h1] at hi'; simp at hi'
    | some c =>
      cases h2 : ps[i]? with
      | none => rw [h1, h2] at hi'; simp at hi'
      | some q =>
        rw [h1, h2] at hi'
        simp at hi'
        subst hi'
        unfold mxP
        split
        · exact hf q (List.mem_of_getElem? h2)
        · exact h.cf c (List.mem_of_getElem? h1)
theorem oks_drp {S : Sm} (h : Oks S) : Oks (drpS S) := by
  have hm : ∀ o, o ∈ (drpS S).ho → o ∈ S.ho := fun o ho => (List.mem_filter.1 ho).1
  refine ⟨h.r0, h.r1, h.rr, h.s0, h.s1, h.h0, h.h1, h.n0, h.n1, ?_, fun o ho => h.lt o (hm o ho), fun o ho => h.gt o (hm o ho), ?_, h.ml, fun o ho => h.mne o (hm o ho), fun o ho => h.fit o (hm o ho), h.mf, h.cl, h.cf⟩
  · have := h.len
    have : (drpS S).ho.length ≤ S.ho.length := List.length_filter_le _ _
    omega
  · exact h.srt.filter _
theorem oks_cut {S : Sm} {ps : List (Int × Int)} (h : Oks S) (hl : ps.length = S.ct.length) (hf : ∀ p ∈ ps, J64 p.1 ∧ J64 p.2) : Oks (cutS S ps) := oks_drp (oks_cutC h hl hf)
end Go.Proofs.YthmolbcnbcajdaaGreat
