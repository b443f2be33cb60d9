/-
  What comes in to the laws of posts: a row of calls, with its sizes and its bulk; estuarylaw08.long.
-/
import Derived.Test.YteililgfjnoabaaPoH
import Derived.Test.YteililgfjnoabaaSzL
namespace Go.Proofs.Yteililgfjnoabaa
open Go.ChangeShapes Go.WideShapes Go.ChangeAt Go.RowKit
set_option linter.unusedVariables false
set_option maxRecDepth 100000

/-- A call: its kind, its number, its rows. -/
structure OpP where
  kd : Int
  nn : Int
  vr : Value
  vs : List Value
  ls : List (List Nat)
structure OpPAt (W : World) (g o : Nat) (x : OpP) : Prop where
  c0 : W.cell? ⟨g, o, none⟩ = some (.int .i64 x.kd)
  c1 : W.cell? ⟨g, o + 1, none⟩ = some x.vr
  c2 : W.cell? ⟨g, o + 2, none⟩ = some (.int .i64 x.nn)
  rows : LsZ W x.vr x.vs x.ls
  bk : I64 x.kd
  bn : I64 x.nn
structure Sc8 (W : World) (q : Option Addr) (n cap g off : Nat) (os : List OpP) : Prop where
  len : os.length = n
  fits : n ≤ cap
  max : cap ≤ 9223372036854775807
  ptr : 0 < n → q = some ⟨g, off, none⟩
  lt : 0 < n → g < W.heap.size
  row : ∀ j x, os[j]? = some x → OpPAt W g (off + j * 3) x
  few : n ≤ 3518437208780
theorem OpPAt.keep {W W' : World} {g o : Nat} {x : OpP} (h : OpPAt W g o x) (hg : g < W.heap.size) (hb : Below W.heap.size W W') : OpPAt W' g o x :=
  ⟨keep_cell hb h.c0 hg, keep_cell hb h.c1 hg, keep_cell hb h.c2 hg, ⟨h.rows.1.keep hb, h.rows.2⟩, h.bk, h.bn⟩
theorem Sc8.keep {W W' : World} {q : Option Addr} {n cap g off : Nat} {os : List OpP} (h : Sc8 W q n cap g off os) (hb : Below W.heap.size W W') : Sc8 W' q n cap g off os :=
  ⟨h.len, h.fits, h.max, h.ptr, fun h0 => Nat.lt_of_lt_of_le (h.lt h0) hb.size, fun j x hx => (h.row j x hx).keep (h.lt (by have := (List.getElem?_eq_some_iff.1 hx).1; have := h.len; omega)) hb, h.few⟩
/-- How many rows and calls there are. -/
def lsum (os : List OpP) : Nat := (os.map fun x => x.ls.length + 1).sum
theorem lsum_snoc (os : List OpP) (x : OpP) : lsum (os ++ [x]) = lsum os + (x.ls.length + 1) := by simp [lsum]
theorem lsum_take (os : List OpP) (k : Nat) : lsum (os.take k) ≤ lsum os := by
  have h : lsum os = lsum (os.take k) + lsum (os.drop k) := by
    conv => lhs; rw [← List.take_append_drop k os]
    simp only [lsum, List.map_append, List.sum_append]
  omega
theorem bulk_pos {H : Type} (d : DataW H) : 1 ≤ Rows.uptoBulk d := by
  cases d with
  | lit l => cases l <;> simp [Rows.uptoBulk]
  | nil => simp [Rows.uptoBulk]
  | ptr d => simp [Rows.uptoBulk]
  | slice a b => simp [Rows.uptoBulk]
  | agg a => simp [Rows.uptoBulk]
  | iface t d => simp [Rows.uptoBulk]
  | map a => simp [Rows.uptoBulk]
  | held h => simp [Rows.uptoBulk]
theorem bulk_len {H : Type} : ∀ l : List (DataW H), l.length ≤ Rows.uptoBulkAll l
  | [] => by simp [Rows.uptoBulkAll]
  | x :: r => by
    have h1 := bulk_pos x
    have h2 := bulk_len r
    simp only [Rows.uptoBulkAll, List.length_cons]
    omega
theorem bulk_one {H : Type} {d : DataW H} (hk : Rows.uptoSmall H ([d] ++ []) = true) : Rows.uptoBulk d ≤ 1048576 := by
  have h : Rows.uptoBulkAll ([d] ++ []) ≤ 1048576 := of_decide_eq_true hk
  simp only [List.append_nil, Rows.uptoBulkAll] at h
  omega
theorem bulk_at {H : Type} : ∀ (l : List (DataW H)) (j : Nat) (d : DataW H), l[j]? = some d → Rows.uptoBulk d ≤ Rows.uptoBulkAll l
  | x :: r, 0, d, h => by
    simp at h
    subst h
    simp only [Rows.uptoBulkAll]
    omega
  | x :: r, j + 1, d, h => by
    have := bulk_at r j d (by simpa using h)
    simp only [Rows.uptoBulkAll]
    omega
theorem bulk_sum {H : Type} (D : Nat → DataW H) (L : Nat → Nat) : ∀ n, (∀ j, j < n → L j ≤ Rows.uptoBulk (D j)) → ((List.range n).map L).sum ≤ Rows.uptoBulkAll ((List.range n).map D)
  | 0, _ => by simp [Rows.uptoBulkAll]
  | n + 1, h => by
    have h1 := bulk_sum D L n (fun j hj => h j (by omega))
    have h2 := h n (by omega)
    have h3 : ∀ a b : List (DataW H), Rows.uptoBulkAll (a ++ b) = Rows.uptoBulkAll a + Rows.uptoBulkAll b := by
      intro a b
      induction a with
      | nil => simp [Rows.uptoBulkAll]
      | cons x r ih => simp only [List.cons_append, Rows.uptoBulkAll, ih]; omega
    rw [List.range_succ, List.map_append, List.map_append, h3, List.sum_append]
    simp only [List.map_cons, List.map_nil, Rows.uptoBulkAll, List.sum_cons, List.sum_nil]
    omega
section
variable {H : Type} {enc : TypeId × Value → H} {w : World} {base : Nat} {spare : Nat → Bool} {held : Bool}
theorem bulk_rows {P : Program} {fuel : Nat} {t e : TypeId} {q : Option Addr} {len cap : Nat} {x : DataW H × List MemPlace} (ht : P.underlying t = some (.slice e)) (hf : DataW.trod enc P w base spare held fuel t [.slice q len cap] = some x) : len + 1 ≤ Rows.uptoBulk x.1 := by
  rcases Deep.open_slice ht hf with ⟨hcs, _⟩ | ⟨a', len', cap', m, n', D', Pl, hcs, hb, hl, hm, hmm, rfl, hel⟩
  · simp at hcs
    obtain ⟨-, rfl, -⟩ := hcs
    exact bulk_pos _
  · simp at hcs
    obtain ⟨rfl, rfl, rfl⟩ := hcs
    have h1 := bulk_len ((List.range len).map D')
    simp only [Rows.uptoBulk]
    rw [List.length_map, List.length_range] at h1
    omega
set_option maxHeartbeats 1000000 in
theorem open_script8 {r : Reach} {b0 : Nat} {v : Value} {d : DataW H} {p : List MemPlace} (hv : Value.okWide Try.prog w r b0 22 v) (h : DataW.Trod enc Try.prog w base spare held 22 v d p) (hz : ∀ n ∈ d.weights Try.prog 22, n ≤ reachBytes) :
    ∃ (q : Option Addr) (n cap g off : Nat) (os : List OpP), v = .slice q n cap ∧ Sc8 w q n cap g off os ∧ lsum os ≤ Rows.uptoBulk d := by
  obtain ⟨a, len, cap, rfl⟩ := okWide_slice Try.underlying22 hv
  obtain ⟨fuel, hf⟩ := h
  have z := len_ofT Try.underlying22 hf hz
  rw [show Try.prog.bytesOf 33 = 40 by kernel_rfl] at z
  unfold reachBytes at z
  rcases Deep.open_slice Try.underlying22 hf with ⟨hcs, _⟩ | ⟨a', len', cap', m, n', D', Pl, hcs, hb, hl, hm, hmm, hx, hel⟩
  · have e1 : (Value.slice a len cap) = .slice none 0 0 := by simpa [Value.cells] using hcs
    cases e1
    exact ⟨none, 0, 0, 0, 0, [], rfl, ⟨rfl, by omega, by omega, fun h => absurd h (by omega), fun h => absurd h (by omega), fun j c hc => by simp at hc, by omega⟩, by simp [lsum]⟩
  · have e1 : (Value.slice a len cap) = .slice (some a') len' cap' := by simpa [Value.cells] using hcs
    cases e1
    have hle : len ≤ m := by rw [hmm]; split <;> omega
    have hxd : d = .slice ((List.range len).map D') ((List.range (m - len)).map fun j => D' (len + j)) := congrArg Prod.fst hx
    subst hxd
    have key : ∀ j, j < len → ∃ x : OpP, w.cell? ((a'.add (j * 3)).add 0) = some (.int .i64 x.kd) ∧ w.cell? ((a'.add (j * 3)).add 1) = some x.vr ∧ w.cell? ((a'.add (j * 3)).add 2) = some (.int .i64 x.nn) ∧ LsZ w x.vr x.vs x.ls ∧ I64 x.kd ∧ I64 x.nn ∧ x.ls.length + 1 ≤ Rows.uptoBulk (D' j) := by
      intro j hj
      obtain ⟨cs', h1, h2⟩ := hel j (by omega)
      rw [show Try.prog.cellsOf 33 = 3 by kernel_rfl] at h1
      obtain ⟨_, h3, h4⟩ := World.cells?_some h1
      have hzj : ∀ n ∈ (D' j).weights Try.prog 33, n ≤ reachBytes := fun n hn => hz n (by
        simp only [DataW.weights, Try.underlying22]
        exact List.mem_cons_of_mem _ (List.mem_append_left _ (weights_mem_all (List.mem_map.2 ⟨j, List.mem_range.2 hj, rfl⟩) n hn)))
      obtain ⟨xs, m', _, hxe, _, hxl, hxx⟩ := DataW.trod_struct Try.underlying33 h2
      have hxe1 : D' j = .agg (xs.map (·.1)) := congrArg Prod.fst hxe
      rw [hxe1] at hzj ⊢
      have hf0 := hxx 0 _ rfl
      have hf1 := hxx 1 _ rfl
      have hf2 := hxx 2 _ rfl
      have hsz : xs.length = 3 := hxl
      rw [List.getElem?_eq_getElem (by omega)] at hf0 hf1 hf2
      obtain ⟨e0, e1, e2, rfl⟩ : ∃ e0 e1 e2, cs' = [e0, e1, e2] := by
        match cs', h3 with
        | [e0, e1, e2], _ => exact ⟨e0, e1, e2, rfl⟩
      obtain ⟨k0, rfl, w0⟩ := i64_of (e := e0) hf0
      obtain ⟨k2, rfl, w2⟩ := i64_of (e := e2) hf2
      obtain ⟨q1, n1, c1, vs1, ls1, ee1, hs1⟩ := listsZ hf1 (fun n hn => hzj n (by simp only [DataW.weights, Try.underlying33]; exact DataW.weights_mem_each (j := 1) rfl (by rw [List.getElem?_map, List.getElem?_eq_getElem (by omega)]; rfl) n hn))
      have h9 : [e1] = [Value.slice q1 n1 c1] := ee1
      obtain rfl : e1 = .slice q1 n1 c1 := by simpa using h9
      have hbk : n1 + 1 ≤ Rows.uptoBulk xs[1].1 := bulk_rows Try.underlying31 hf1
      have hb2 := bulk_at (xs.map (·.1)) 1 xs[1].1 (by rw [List.getElem?_map, List.getElem?_eq_getElem (by omega)]; rfl)
      have hn1 : ls1.length = n1 := by
        obtain ⟨q', cap', g', off', ep', -⟩ := hs1.1.open
        cases ep'
        rfl
      refine ⟨⟨k0, k2, .slice q1 n1 c1, vs1, ls1⟩, h4 0 (by omega), h4 1 (by omega), h4 2 (by omega), hs1, w0, w2, ?_⟩
      simp only [Rows.uptoBulk]
      show ls1.length + 1 ≤ _
      omega
    haveI : Inhabited OpP := ⟨⟨0, 0, .nilIface, [], []⟩⟩
    obtain ⟨L, hL⟩ := Deep.choose_lt key
    have hspot : 0 < len → a'.spot = none := fun h0 => by
      have h1 := (hL 0 h0).1
      have := spot_of_cell h1
      rw [Nat.zero_mul] at this
      simpa [Addr.add] using this
    refine ⟨some a', len, cap, a'.block, a'.off, (List.range len).map L, rfl, ⟨by simp, hl, hm, fun h0 => ?_, fun h0 => ?_, fun j x hx => ?_, by omega⟩, ?_⟩
    · have hs := hspot h0
      obtain ⟨b, o, s⟩ := a'; cases hs; rfl
    · have := World.block_lt_of_cell? w _ (hL 0 h0).1
      simpa [Addr.add] using this
    · have hj : j < len := by have := (List.getElem?_eq_some_iff.1 hx).1; simpa using this
      have hxj : x = L j := by simp [hj] at hx; exact hx.symm
      subst hxj
      have hs := hspot (by omega)
      obtain ⟨h0, h1, h2, h3, h4, h5, -⟩ := hL j hj
      rw [add_plain _ hs, add_plain _ rfl] at h0 h1 h2
      exact ⟨h0, h1, h2, h3, h4, h5⟩
    · have h1 := bulk_sum D' (fun j => (L j).ls.length + 1) len (fun j hj => (hL j hj).2.2.2.2.2.2)
      unfold lsum
      rw [List.map_map]
      simp only [Rows.uptoBulk]
      have e2 : (List.range len).map ((fun x : OpP => x.ls.length + 1) ∘ L) = (List.range len).map (fun j => (L j).ls.length + 1) := rfl
      rw [e2]
      omega
end
set_option maxHeartbeats 2000000 in
theorem long8_any (q : Option Addr) (n cap g off : Nat) (os : List OpP) (w : World) (h : Sc8 w q n cap g off os) :
    Calls Try.prog 10 #[.slice q n cap] w fun e w' => (∃ rr : Bool, e = .returned (.bool rr)) ∧ Below w.heap.size w w' := by
  obtain ⟨hlen, hc, hm, hp, hg, hat, hfew⟩ := h
  go_enter Try.func10, Try.ntmps10
  go_wp2_with fail
  go_loopw [3, 10] (fun s x wr => ∃ (i : Nat) (y : Int), i ≤ n ∧ x = .int .i64 (i : Int) ∧ s = .int .i64 y ∧ Below w.heap.size w wr) (fun _ x _ => n - (intOf x).toNat)
  case atStart => exact ⟨0, 0, by omega, rfl, rfl, Below.refl _ _⟩
  case round =>
    obtain ⟨i, y, hi, rfl, rfl, hbw⟩ := hrel
    by_cases hin : i = n
    · subst hin
      clear hat hp hg
      go_wp2_with fail
      go_ret
      exact ⟨⟨false, rfl⟩, hbw⟩
    · obtain ⟨x, hx⟩ : ∃ x, os[i]? = some x := ⟨os[i], List.getElem?_eq_getElem (by omega)⟩
      obtain rfl := hp (by omega)
      have hgl := hg (by omega)
      have ox := (hat i x hx).keep hgl hbw
      obtain ⟨d0, d1, d2, rows, -, -⟩ := ox
      have hii : (i : Int) < (n : Int) := by omega
      have hin' : i < n := by omega
      obtain ⟨kd, nn, vr, vs, ls⟩ := x
      dsimp only at d0 d1 d2 rows
      obtain ⟨qr, capr, gr, offr, er, hcr, hmr, hpr, hgr, hrr⟩ := rows.1.open
      have hlenr := rows.1.len
      have hEr := rows.1.each
      have hzr := rows.2.1
      have hnz := rows.2.2
      subst er
      generalize hnr : ls.length = nr at *
      clear hat hp hg hx rows
      go_upto_region 7 with fail
      have b6 : Below wr.heap.size wr (wr.alloc (.cells #[.int .i64 kd, .slice qr nr capr, .int .i64 nn] 33)) := (Below.refl _ _).alloc (Nat.le_refl _) _
      generalize wr.alloc (.cells #[.int .i64 kd, .slice qr nr capr, .int .i64 nn] 33) = X at *
      have bX := ab_trans hbw b6
      have hrX : ∀ (k : Nat) (u : Value), vs[k]? = some u → 0 < nr → X.cell? ⟨gr, offr + k, none⟩ = some u := fun k u hu h0 => keep_cell b6 (hrr k u hu) (hgr h0)
      have hEX : ∀ (j : Nat) (u : Value) (m : List Nat), vs[j]? = some u → ls[j]? = some m → ∃ a' b' c', u = .slice a' b' c' ∧ b' ≤ 140737488351232 := fun j u m hu hm' => by
        have s := hEr j u m hu hm'
        obtain ⟨a', b', c', e⟩ := s.slice
        rw [e] at s
        have := s.len
        have h2 := (hzr m (List.mem_of_getElem? hm')).2
        exact ⟨a', b', c', e, by omega⟩
      generalize wrap64 (y + (1 + (nr : Int))) = y1
      generalize hbb : wr.heap.size = bb at *
      clear hrr hgr hEr hzr d0 d1 d2 hbw b6 hbb
      go_loopw [3, 23] (fun s j w2 => ∃ (k : Nat) (y : Int), k ≤ nr ∧ j = .int .i64 (k : Int) ∧ s = .int .i64 y ∧ w2 = X) (fun _ j _ => nr - (intOf j).toNat)
      case atStart => exact ⟨0, y1, by omega, rfl, rfl, rfl⟩
      case round =>
        obtain ⟨k, y2, hk, rfl, rfl, rfl⟩ := hrel
        by_cases ck : k = nr
        · subst ck
          clear hpr hrX hEX
          by_cases hbig : 800 < y2
          · go_wp2_with fail
            go_ret
            exact ⟨⟨true, rfl⟩, bX⟩
          · go_wp2_with fail
            exact ⟨⟨i + 1, y2, by omega, rfl, rfl, bX⟩, by simp only [intOf]; omega⟩
        · obtain ⟨u, hu⟩ : ∃ y, vs[k]? = some y := ⟨vs[k], List.getElem?_eq_getElem (by omega)⟩
          obtain ⟨m, hm'⟩ : ∃ l, ls[k]? = some l := ⟨ls[k], List.getElem?_eq_getElem (by omega)⟩
          obtain rfl := hpr (by omega)
          have du := hrX k u hu (by omega)
          obtain ⟨a', b', c', eu, hb14⟩ := hEX k u m hu hm'
          subst eu
          have hki : (k : Int) < (nr : Int) := by omega
          have hkn : k < nr := by omega
          clear hpr hrX hEX hu hm'
          go_wp2_with fail
          exact ⟨⟨k + 1, _, by omega, rfl, rfl, trivial⟩, by simp only [intOf]; omega⟩
end Go.Proofs.Yteililgfjnoabaa
