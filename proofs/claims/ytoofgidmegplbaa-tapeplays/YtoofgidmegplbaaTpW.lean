/-
  What comes in: a row of calls; estuarylaw06.long; a region's S may be made narrower on the way.
-/
import Derived.Test.YtoofgidmegplbaaTpV
import Derived.SizedLaws
namespace Go.Proofs.Ytoofgidmegplbaa
open Go.ChangeShapes Go.WideShapes Go.ChangeAt Go.RowKit
set_option linter.unusedVariables false

theorem wpAnyH_less {P : Program} {md : Region.Mode} {ops : Array Oper} {Q : Exit → Act → World → Prop} {S S' : World → Prop} (hS : ∀ w, S' w → S w) : ∀ (n : Nat) (l : Array Bool) (a : Act) (w : World), wpAnyH P md ops Q S' n l a w → wpAnyH P md ops Q S n l a w
  | 0, _, _, _, h => h
  | n + 1, _, _, _, h => ⟨h.1, fun i hi => wpOp_mono (fun a' w' h' => ⟨hS _ h'.1, wpAnyH_less hS n _ a' w' h'.2⟩) (h.2 i hi)⟩
/-- A call: its kind, its bytes, its number. -/
structure OpD where
  kd : Int
  nn : Int
  v : Value
  l : List Nat
/-- A call in memory. -/
structure OpAt (W : World) (g o : Nat) (x : OpD) : Prop where
  c0 : W.cell? ⟨g, o, none⟩ = some (.int .i64 x.kd)
  c1 : W.cell? ⟨g, o + 1, none⟩ = some x.v
  c2 : W.cell? ⟨g, o + 2, none⟩ = some (.int .i64 x.nn)
  sl : Sl W x.v x.l
  bk : -9223372036854775808 ≤ x.kd ∧ x.kd ≤ 9223372036854775807
  bn : -9223372036854775808 ≤ x.nn ∧ x.nn ≤ 9223372036854775807
structure Sc (W : World) (q : Option Addr) (n cap g off : Nat) (os : List OpD) : Prop where
  len : os.length = n
  fits : n ≤ cap
  max : cap ≤ 9223372036854775807
  ptr : 0 < n → q = some ⟨g, off, none⟩
  lt : 0 < n → g < W.heap.size
  row : ∀ j x, os[j]? = some x → OpAt W g (off + j * 3) x
  few : n ≤ 3518437208780
section
variable {H : Type} {enc : TypeId × Value → H} {w : World} {base : Nat} {spare : Nat → Bool} {held : Bool}
/-- A slice that came in is not longer than what a machine reaches. -/
theorem len_ofT {P : Program} {fuel : Nat} {t e : TypeId} {q : Option Addr} {len cap : Nat} {x : DataW H × List MemPlace} (ht : P.underlying t = some (.slice e)) (hf : DataW.trod enc P w base spare held fuel t [.slice q len cap] = some x) (hw : ∀ n ∈ x.1.weights P t, n ≤ reachBytes) : len * P.bytesOf e ≤ reachBytes := by
  rcases Deep.open_slice ht hf with ⟨hcs, _⟩ | ⟨a', len', cap', m, n', D', Pl, hcs, hb, hl, hm, hmm, rfl, hel⟩
  · simp at hcs
    obtain ⟨-, rfl, -⟩ := hcs
    simp
  · simp at hcs
    obtain ⟨rfl, rfl, rfl⟩ := hcs
    have h1 := hw ((len + (m - len)) * P.bytesOf e) (by simp [DataW.weights, ht])
    exact Nat.le_trans (Nat.mul_le_mul_right _ (by omega)) h1
set_option maxRecDepth 100000 in
set_option maxHeartbeats 1000000 in
theorem open_ops {r : Reach} {b0 : Nat} {v : Value} {d : DataW H} {p : List MemPlace} (hv : Value.okWide Try.prog w r b0 22 v) (h : DataW.Trod enc Try.prog w base spare held 22 v d p) (hz : ∀ n ∈ d.weights Try.prog 22, n ≤ reachBytes) :
    ∃ (q : Option Addr) (n cap g off : Nat) (os : List OpD), v = .slice q n cap ∧ Sc w q n cap g off os := by
  obtain ⟨a, len, cap, rfl⟩ := okWide_slice Try.underlying22 hv
  obtain ⟨fuel, hf⟩ := h
  have z := len_ofT Try.underlying22 hf hz
  rw [show Try.prog.bytesOf 32 = 40 by kernel_rfl] at z
  unfold reachBytes at z
  rcases Deep.open_slice Try.underlying22 hf with ⟨hcs, _⟩ | ⟨a', len', cap', m, n', D', Pl, hcs, hb, hl, hm, hmm, hx, hel⟩
  · have e1 : (Value.slice a len cap) = .slice none 0 0 := by simpa [Value.cells] using hcs
    cases e1
    exact ⟨none, 0, 0, 0, 0, [], rfl, rfl, by omega, by omega, fun h => absurd h (by omega), fun h => absurd h (by omega), fun j c hc => by simp at hc, by omega⟩
  · have e1 : (Value.slice a len cap) = .slice (some a') len' cap' := by simpa [Value.cells] using hcs
    cases e1
    have hle : len ≤ m := by rw [hmm]; split <;> omega
    have key : ∀ j, j < len → ∃ x : OpD, w.cell? ((a'.add (j * 3)).add 0) = some (.int .i64 x.kd) ∧ w.cell? ((a'.add (j * 3)).add 1) = some x.v ∧ w.cell? ((a'.add (j * 3)).add 2) = some (.int .i64 x.nn) ∧ Sl w x.v x.l ∧ (-9223372036854775808 ≤ x.kd ∧ x.kd ≤ 9223372036854775807) ∧ (-9223372036854775808 ≤ x.nn ∧ x.nn ≤ 9223372036854775807) := by
      intro j hj
      obtain ⟨cs', h1, h2⟩ := hel j (by omega)
      rw [show Try.prog.cellsOf 32 = 3 by kernel_rfl] at h1
      obtain ⟨_, h3, h4⟩ := World.cells?_some h1
      obtain ⟨k0, e0, w0⟩ := flat_cell 8 n' 32 cs' _ 0 .i64 h2 (by kernel_rfl)
      obtain ⟨k2, e2, w2⟩ := flat_cell 8 n' 32 cs' _ 2 .i64 h2 (by kernel_rfl)
      obtain ⟨xs, m', _, _, _, hxl, hxx⟩ := DataW.trod_struct Try.underlying32 h2
      have hf1 := hxx 1 _ rfl
      rw [List.getElem?_eq_getElem (by rw [hxl]; decide)] at hf1
      obtain ⟨q, g, off, len2, cap2, l2, ee, hl2, hk2, hm2, hp2, hg2, hc2⟩ := rows_of (n := 1) (D := 8) (fun _ => .u8) Try.underlying30 (by kernel_rfl) (by omega) (kinds_of (by kernel_rfl)) hf1
      obtain ⟨l3, hs3, -⟩ := bytes_rows hl2 hk2 hm2 hp2 hg2 hc2
      have e1 : cs'[1]? = some (.slice q len2 cap2) := by
        have h9 := congrArg (fun l : List Value => l[0]?) ee
        simp only [List.getElem?_cons_zero] at h9
        exact drop_take_get (o := 1) (c := 1) h9 (Nat.le_refl _)
      exact ⟨⟨k0, k2, .slice q len2 cap2, l3⟩, (h4 0 (by omega)).trans e0, (h4 1 (by omega)).trans e1, (h4 2 (by omega)).trans e2, hs3, bounds_i64 w0, bounds_i64 w2⟩
    haveI : Inhabited OpD := ⟨⟨0, 0, .nilIface, []⟩⟩
    obtain ⟨L, hL⟩ := Deep.choose_lt key
    have hspot : 0 < len → a'.spot = none := fun h0 => by
      have h1 := (hL 0 h0).1
      have := spot_of_cell h1
      rw [Nat.zero_mul] at this
      simpa [Addr.add] using this
    refine ⟨some a', len, cap, a'.block, a'.off, (List.range len).map L, rfl, by simp, hl, hm, fun h0 => ?_, fun h0 => ?_, fun j x hx => ?_, by omega⟩
    · have hs := hspot h0
      obtain ⟨b, o, s⟩ := a'; cases hs; rfl
    · have := World.block_lt_of_cell? w _ (hL 0 h0).1
      simpa [Addr.add] using this
    · have hj : j < len := by have := (List.getElem?_eq_some_iff.1 hx).1; simpa using this
      have hxj : x = L j := by simp [hj] at hx; exact hx.symm
      subst hxj
      have hs := hspot (by omega)
      obtain ⟨h0, h1, h2, h3, h4, h5⟩ := hL j hj
      rw [add_plain _ hs, add_plain _ rfl] at h0 h1 h2
      exact ⟨h0, h1, h2, h3, h4, h5⟩
end
theorem OpAt.keep {W W' : World} {g o : Nat} {x : OpD} (h : OpAt W g o x) (hg : g < W.heap.size) (hb : Below W.heap.size W W') : OpAt W' g o x :=
  ⟨keep_cell hb h.c0 hg, keep_cell hb h.c1 hg, keep_cell hb h.c2 hg, h.sl.keep hb, h.bk, h.bn⟩
set_option maxHeartbeats 1000000 in
theorem long_any (q : Option Addr) (n cap g off : Nat) (os : List OpD) (w : World) (h : Sc w q n cap g off os) :
    Calls Try.prog 10 #[.slice q n cap] w fun e w' => (∃ rr : Bool, e = .returned (.bool rr) ∧ (rr = false → (∀ x ∈ os, x.l.length ≤ 16384) ∧ n ≤ 500)) ∧ Below w.heap.size w w' := by
  obtain ⟨hlen, hc, hm, hp, hg, hat, hfew⟩ := h
  go_enter Try.func10, Try.ntmps10
  go_wp2_with fail
  go_loopw [3, 8] (fun s x wr => ∃ (i : Nat) (y : Int), i ≤ n ∧ x = .int .i64 (i : Int) ∧ s = .int .i64 y ∧ (i : Int) ≤ y ∧ y ≤ 65 * (i : Int) ∧ (∀ x ∈ os.take i, x.l.length ≤ 16384) ∧ Below w.heap.size w wr) (fun _ x _ => n - (intOf x).toNat)
  case atStart => exact ⟨0, 0, by omega, rfl, rfl, by omega, by omega, by simp, Below.refl _ _⟩
  case round =>
    obtain ⟨i, y, hi, rfl, rfl, hy1, hy2, hall, hbw⟩ := hrel
    by_cases hin : i = n
    · subst hin
      rw [List.take_of_length_le (by omega)] at hall
      have HR : Hid (decide (500 < y) = false → (∀ x ∈ os, x.l.length ≤ 16384) ∧ i ≤ 500) := fun h => ⟨hall, by have := of_decide_eq_false h; omega⟩
      clear hat hp hg hall
      go_wp2_with fail
      go_ret
      exact ⟨⟨_, rfl, HR.out⟩, hbw⟩
    · obtain ⟨x, hx⟩ : ∃ x, os[i]? = some x := ⟨os[i], List.getElem?_eq_getElem (by omega)⟩
      obtain rfl := hp (by omega)
      have ox := (hat i x hx).keep (hg (by omega)) hbw
      obtain ⟨d0, d1, d2, sl, -, -⟩ := ox
      have hii : (i : Int) < (n : Int) := by omega
      have hin' : i < n := by omega
      have hfi : (n : Int) ≤ 3518437208780 := by omega
      have HT : Hid (os.take (i + 1) = os.take i ++ [x]) := by show _ = _; rw [List.take_add_one, hx]; rfl
      have HAl : Hid (∀ x ∈ os.take i, x.l.length ≤ 16384) := hall
      obtain ⟨qx, capx, ex, -⟩ := id sl
      rw [ex] at d1
      clear hat hp hg hall hx sl
      generalize hnl : x.l.length = nl at *
      by_cases hb : 16384 < nl
      · have hbi : (16384 : Int) < (nl : Int) := by omega
        go_wp2_with fail
        go_ret
        exact ⟨⟨true, rfl, fun h => by cases h⟩, hbw.alloc hbw.size _⟩
      · have hbi : ¬ (16384 : Int) < (nl : Int) := by omega
        go_wp2_with fail
        refine ⟨⟨i + 1, _, by omega, rfl, rfl, ?_, ?_, ?_, hbw.alloc hbw.size _⟩, by simp only [intOf]; omega⟩
        · first | omega | (unfold wrap64; omega)
        · first | omega | (unfold wrap64; omega)
        · rw [HT.out]
          intro z hz
          rcases List.mem_append.1 hz with hz | hz
          · exact HAl.out z hz
          · have : z = x := by simpa using hz
            subst this
            omega
end Go.Proofs.Ytoofgidmegplbaa
