/-
  Keeper: what one is in memory; its registers as they are read.
  What comes in, with its sizes: bytes and lists of bytes.
  What comes in: a row of calls; estuarylaw06.long; a region's S may be made narrower on the way.
-/
import Derived.Test.YtlhamckpgijjmaaPk27
import Derived.Test.YtlhamckpgijjmaaPk37
import Derived.Test.YtlhamckpgijjmaaPk25
import Derived.SizedLaws
import Derived.Test.YtlhamckpgijjmaaPk35
namespace Go.Proofs.Ytlhamckpgijjmaa
open Go.RowKit
set_option linter.unusedVariables false
set_option maxRecDepth 100000

section
variable {α : Type} {enc : α → List Value} {k : Nat}
theorem kfl_len (he : ∀ x, (enc x).length = k) (xs : List α) : (xs.flatMap enc).length = xs.length * k := by
  induction xs with
  | nil => simp
  | cons x r ih => rw [List.flatMap_cons, List.length_append, he, ih, List.length_cons, Nat.add_mul]; omega
theorem kfl_at (he : ∀ x, (enc x).length = k) : ∀ {xs : List α} {j i : Nat} {x : α}, xs[j]? = some x → i < k → (xs.flatMap enc)[j * k + i]? = (enc x)[i]? := by
  intro xs
  induction xs with
  | nil => intro j i x h; simp at h
  | cons y r ih =>
    intro j i x h hi
    rw [List.flatMap_cons]
    cases j with
    | zero =>
      simp at h
      subst h
      rw [Nat.zero_mul, Nat.zero_add, List.getElem?_append_left (by rw [he]; exact hi)]
    | succ j =>
      have h2 : r[j]? = some x := by simpa using h
      rw [List.getElem?_append_right (by rw [he, Nat.add_mul]; omega), he, show (j + 1) * k + i - k = j * k + i by rw [Nat.add_mul]; omega]
      exact ih h2 hi
end
/-- A register with its slice. -/
structure KD where
  p : Bt
  a : Bt
  v : Value
  l : List Int
def encK (x : KD) : List Value := (rC x.p x.a x.v).toList
theorem encK_len (x : KD) : (encK x).length = 7 := rfl
def rgK (x : KD) : Rg := ⟨x.p, x.a, x.l⟩
def kpC (d : Nat) (node : Int) (os : List KD) : Array Value := (tptr d :: .int .i64 node :: os.flatMap encK).toArray
/-- A keeper at block kb, its diary at d, its tape at b with its own bytes v. -/
structure Kp (W : World) (base b : Nat) (v : Value) (d kb : Nat) (S : TS) (nr nb : Nat) (node : Int) (os : List KD) : Prop where
  tp : Tp W base b v S
  dy : Blk W d (dcs b nr nb) 103
  kp : Blk W kb (kpC d node os) 70
  len : os.length = 100
  im : ∀ r ∈ os, Io W base r.v r.l
  gd : base ≤ d
  gk : base ≤ kb
theorem kp_at {W : World} {kb d : Nat} {node : Int} {os : List KD} (h : Blk W kb (kpC d node os) 70) {key i : Nat} {x : KD} {u : Value} (hx : os[key]? = some x) (hi : i < 7) (hu : (encK x)[i]? = some u) : W.cell? ⟨kb, 2 + key * 7 + i, none⟩ = some u := by
  refine h.at ?_
  unfold kpC
  rw [List.getElem?_toArray, show 2 + key * 7 + i = (key * 7 + i) + 1 + 1 by omega, List.getElem?_cons_succ, List.getElem?_cons_succ, kfl_at encK_len hx hi]
  exact hu
theorem kp_0 {W : World} {kb d : Nat} {node : Int} {os : List KD} (h : Blk W kb (kpC d node os) 70) : W.cell? ⟨kb, 0, none⟩ = some (tptr d) ∧ W.cell? ⟨kb, 1, none⟩ = some (.int .i64 node) := ⟨h.at (i := 0) rfl, h.at (i := 1) rfl⟩
theorem krows_any (b d kb nr nb : Nat) (node : Int) (os : List KD) (w : World) (hk : Blk w kb (kpC d node os) 70) (hD : Blk w d (dcs b nr nb) 103) :
    Calls Try.prog 19 #[tptr kb] w fun e w' => e = .returned (.int .i64 (nr : Int)) ∧ w' = w := by
  have c0 := (kp_0 hk).1
  go_enter Try.func19, Try.ntmps19
  go_wp2_with fail
  refine (dlen_any b d nr nb w hD).mono ?_
  rintro e w ⟨rfl, rfl⟩
  go_wp2_with fail
  go_ret
  exact ⟨rfl, rfl⟩
theorem krows_nil (w : World) : Calls Try.prog 19 #[.pointer none] w fun e w' => e = .returned (.int .i64 0) ∧ w' = w := by
  go_enter Try.func19, Try.ntmps19
  go_wp2_with fail
  go_ret
  exact ⟨rfl, rfl⟩
/-- A register with a slice of its own. -/
def RegE (W : World) (base : Nat) (r : Rg) (e : Ending) : Prop := ∃ q n c, e = .returned (rV r.p r.a (.slice q n c)) ∧ Io W base (.slice q n c) r.l ∧ r.l.length = n
set_option maxHeartbeats 1000000 in
theorem kregister_nil (k : Int) (w : World) : Calls Try.prog 11 #[.pointer none, .int .i64 k] w fun e w' => RegE w' w.heap.size zR e ∧ Below w.heap.size w w' := by
  go_enter Try.func11, Try.ntmps11
  go_upto_region 1 with fail
  obtain ⟨A, hAe, hB, bA⟩ := blk1 w (rC zB zB (.slice none 0 0)) 40
  rw [show w.alloc (.cells #[.int .i64 0, .int .i64 0, .int .i64 0, .int .i64 0, .int .i64 0, .int .i64 0, .slice none 0 0] 40) = A from hAe]
  clear hAe
  go_wp2_with (refine st_rg rfl rfl (p1 := zB) (a1 := zB) hB rfl rfl ?_; intro W5 hB5 C5)
  exact bodyPost_ret (results_cell_row rfl _ _ _ 40 _ (0, 0) _ rfl hB5 Try.underlying40 rfl (info_rg zB zB _)) rfl ⟨⟨none, 0, 0, rfl, Io.nil _ _, rfl⟩, ab_chg bA C5 (Nat.le_refl _)⟩
set_option maxHeartbeats 2000000 in
theorem kregister_any (kb d key : Nat) (node : Int) (os : List KD) (x : KD) (w : World) (hk : Blk w kb (kpC d node os) 70) (hx : os[key]? = some x) (h100 : key < 100) (hi : Is w x.v x.l) (hl : x.l.length ≤ 100000) :
    Calls Try.prog 11 #[tptr kb, .int .i64 (key : Int)] w fun e w' => RegE w' w.heap.size (rgK x) e ∧ Below w.heap.size w w' := by
  obtain ⟨p, a, v, l⟩ := x
  dsimp only at hi hl
  obtain ⟨q1, c1, e1⟩ := hi.form
  obtain ⟨n, hn⟩ : ∃ n, l.length = n := ⟨_, rfl⟩
  rw [hn] at e1
  subst e1
  go_enter Try.func11, Try.ntmps11
  go_upto_region 1 with fail
  obtain ⟨A, hAe, hB, bA⟩ := blk1 w (rC zB zB (.slice none 0 0)) 40
  rw [show w.alloc (.cells #[.int .i64 0, .int .i64 0, .int .i64 0, .int .i64 0, .int .i64 0, .int .i64 0, .slice none 0 0] 40) = A from hAe]
  clear hAe
  have hkA := hk.keep bA
  have C : ∀ i u, i < 7 → (encK ⟨p, a, .slice q1 n c1, l⟩)[i]? = some u → A.cell? ⟨kb, 2 + key * 7 + i, none⟩ = some u := fun i u hi hu => kp_at hkA hx hi hu
  have x0 : A.cell? ⟨kb, 2 + key * 7, none⟩ = some (.int .i64 p.n) := C 0 _ (by omega) rfl
  have x1 : A.cell? ⟨kb, 2 + key * 7 + 1, none⟩ = some (.int .i64 p.nd) := C 1 _ (by omega) rfl
  have x2 : A.cell? ⟨kb, 2 + key * 7 + 2, none⟩ = some (.int .i64 p.lf) := C 2 _ (by omega) rfl
  have x3 : A.cell? ⟨kb, 2 + key * 7 + 3, none⟩ = some (.int .i64 a.n) := C 3 _ (by omega) rfl
  have x4 : A.cell? ⟨kb, 2 + key * 7 + 4, none⟩ = some (.int .i64 a.nd) := C 4 _ (by omega) rfl
  have x5 : A.cell? ⟨kb, 2 + key * 7 + 5, none⟩ = some (.int .i64 a.lf) := C 5 _ (by omega) rfl
  have x6 : A.cell? ⟨kb, 2 + key * 7 + 6, none⟩ = some (.slice q1 n c1) := C 6 _ (by omega) rfl
  clear C
  have hkey : keyB (key : Int) = true := keyB_iff.2 ⟨by omega, by omega⟩
  have k1 : (key : Int) < 100 := by omega
  go_wp2_with fail
  refine (iskey_any (key : Int) _).mono ?_
  rintro e A ⟨rfl, rfl⟩
  rw [hkey]
  go_upto_region 4 with fail
  obtain ⟨V, hVe, hV, bV⟩ := blk1 A (rC p a (.slice q1 n c1)) 40
  rw [show A.alloc (.cells _ 40) = V from hVe]
  clear hVe x0 x1 x2 x3 x4 x5 x6
  have bW := ab_trans bA bV
  have y6 := hV.at (i := 6) rfl
  go_wp2_with fail
  refine (kclone_any _ l V (hi.keep bW) hl).mono ?_
  rintro e W1 ⟨v1, rfl, O1, b1⟩
  obtain ⟨q2, c2, e2⟩ := O1.is.form
  rw [hn] at e2
  subst e2
  have hV1 := hV.keep b1
  have hB1 := hB.keep (ab_trans bV b1)
  have y6' := hV1.at (i := 6) rfl
  have fz := hV1.frozen 6
  clear y6
  go_upto_region 5 with fail
  have hV2 := hV1.set 6 (.slice q2 n c2)
  have C2 := chg_set W1 A.heap.size 6 (.slice q2 n c2)
  have hne : w.heap.size ≠ A.heap.size := by have := hB.lt; omega
  have hB2 : Blk (W1.setCell ⟨A.heap.size, 6, none⟩ (.slice q2 n c2)) w.heap.size (rC zB zB (.slice none 0 0)) 40 := by
    unfold Blk at *
    rw [C2.other _ hne]
    exact hB1
  have O2 : Io (W1.setCell ⟨A.heap.size, 6, none⟩ (.slice q2 n c2)) V.heap.size (.slice q2 n c2) l := io_chg O1 C2 hV.lt
  generalize W1.setCell ⟨A.heap.size, 6, none⟩ (.slice q2 n c2) = W2 at *
  clear y6' fz
  have t0 := hV2.at (i := 0) rfl
  have t1 := hV2.at (i := 1) rfl
  have t2 := hV2.at (i := 2) rfl
  have t3 := hV2.at (i := 3) rfl
  have t4 := hV2.at (i := 4) rfl
  have t5 := hV2.at (i := 5) rfl
  have t6 := hV2.at (i := 6) rfl
  go_wp2_with (refine st_rg rfl rfl (p1 := p) (a1 := a) hB2 rfl rfl ?_; intro W5 hB5 C5)
  exact bodyPost_ret (results_cell_row rfl _ _ _ 40 _ (0, 0) _ rfl hB5 Try.underlying40 rfl (info_rg p a _)) rfl ⟨⟨q2, n, c2, rfl, (io_chg O2 C5 (Nat.lt_of_lt_of_le hB.lt bV.size)).less bW.size, hn⟩, ab_chg (ab_chg (ab_trans bW b1) C2 bA.size) C5 (Nat.le_refl _)⟩
end Go.Proofs.Ytlhamckpgijjmaa
namespace Go.Proofs.Ytlhamckpgijjmaa
open Go.ChangeShapes Go.WideShapes Go.ChangeAt Go.RowKit
set_option linter.unusedVariables false
set_option maxRecDepth 100000

section
variable {H : Type} {enc : TypeId × Value → H} {w : World} {base : Nat} {spare : Nat → Bool} {held : Bool} {P : Program}
/-- A slice that came in is not longer than what a machine reaches. -/
theorem len_ofT {fuel : Nat} {t e : TypeId} {q : Option Addr} {len cap : Nat} {x : DataW H × List MemPlace} (ht : P.underlying t = some (.slice e)) (hf : DataW.trod enc P w base spare held fuel t [.slice q len cap] = some x) (hw : ∀ n ∈ x.1.weights P t, n ≤ reachBytes) : len * P.bytesOf e ≤ reachBytes := by
  rcases Deep.open_slice ht hf with ⟨hcs, _⟩ | ⟨a', len', cap', m, n', D', Pl, hcs, hb, hl, hm, hmm, rfl, hel⟩
  · simp at hcs
    obtain ⟨-, rfl, -⟩ := hcs
    simp
  · simp at hcs
    obtain ⟨rfl, rfl, rfl⟩ := hcs
    have h1 := hw ((len + (m - len)) * P.bytesOf e) (by simp [DataW.weights, ht])
    exact Nat.le_trans (Nat.mul_le_mul_right _ (by omega)) h1
theorem weights_mem_all {e : TypeId} : ∀ {l : List (DataW H)} {d : DataW H}, d ∈ l → ∀ n ∈ d.weights P e, n ∈ DataW.weightsAll P e l
  | d0 :: r, d, hd, n, hn => by
    simp only [DataW.weightsAll, List.mem_append]
    rcases List.mem_cons.1 hd with rfl | h
    · exact Or.inl hn
    · exact Or.inr (weights_mem_all h n hn)
/-- Bytes and how many they may be. -/
def SlZ (w : World) (v : Value) (l : List Nat) : Prop := Sl w v l ∧ Byt l ∧ l.length ≤ 140737488351232
def LsZ (w : World) (v : Value) (vs : List Value) (ls : List (List Nat)) : Prop := Ls w v vs ls ∧ (∀ l ∈ ls, Byt l ∧ l.length ≤ 140737488351232) ∧ ls.length ≤ 5864062014634
theorem bytesZ {fuel : Nat} {cs : List Value} {x : DataW H × List MemPlace} (hf : DataW.trod enc Try.prog w base spare held fuel 59 cs = some x) (hw : ∀ n ∈ x.1.weights Try.prog 59, n ≤ reachBytes) :
    ∃ q n cap l, cs = [.slice q n cap] ∧ SlZ w (.slice q n cap) l := by
  obtain ⟨q, g, off, len, cap, l, e, hl, hk, hm, hp, hg, hc⟩ := rows_of (n := 1) (D := 8) (fun _ => .u8) Try.underlying59 (by kernel_rfl) (by omega) (kinds_of (by kernel_rfl)) hf
  obtain ⟨m, hs, hb⟩ := bytes_rows hl hk hm hp hg hc
  subst e
  have z := len_ofT Try.underlying59 hf hw
  rw [show Try.prog.bytesOf 5 = 1 by kernel_rfl] at z
  unfold reachBytes at z
  have := hs.len
  exact ⟨q, len, cap, m, rfl, hs, hb, by omega⟩
theorem listsZ {fuel : Nat} {cs : List Value} {x : DataW H × List MemPlace} (hf : DataW.trod enc Try.prog w base spare held fuel 65 cs = some x) (hw : ∀ n ∈ x.1.weights Try.prog 65, n ≤ reachBytes) :
    ∃ q n cap vs ls, cs = [.slice q n cap] ∧ LsZ w (.slice q n cap) vs ls := by
  rcases Deep.open_slice1 Try.underlying65 (by kernel_rfl) hf with ⟨hcs, _⟩ | ⟨a', len, cap, m, n', V, D', Pl, hcs, hb, hl, hm, hmm, hx, hel⟩
  · exact ⟨none, 0, 0, [], [], hcs, ls_nil w, (fun l h => by simp at h), by simp⟩
  · subst hcs
    have z := len_ofT Try.underlying65 hf hw
    rw [show Try.prog.bytesOf 59 = 24 by kernel_rfl] at z
    unfold reachBytes at z
    have hle : len ≤ m := by rw [hmm]; split <;> omega
    have key : ∀ j, j < len → ∃ l, SlZ w (V j) l := fun j hj => by
      obtain ⟨_, h2⟩ := hel j (by omega)
      obtain ⟨q, n, c, l, e, hs⟩ := bytesZ h2 (fun n hn => hw n (by
        subst hx
        simp only [DataW.weights, Try.underlying65]
        refine List.mem_cons_of_mem _ (List.mem_append_left _ (weights_mem_all (List.mem_map.2 ⟨j, List.mem_range.2 hj, rfl⟩) n hn))))
      have e2 : V j = .slice q n c := by simpa using e
      rw [e2]
      exact ⟨l, hs⟩
    obtain ⟨L, hL⟩ := Deep.choose_lt key
    refine ⟨some a', len, cap, (List.range len).map V, (List.range len).map L, rfl, ⟨by simp, ⟨some a', cap, by simp, by simpa using hl, hm, fun h0 => ?_⟩, fun j x l hx hl => ?_⟩, fun l hlm => ?_, by simp; omega⟩
    · have h1 : 0 < len := by simpa using h0
      have hc0 := (hel 0 (by omega)).1
      have hs : a'.spot = none := by have := spot_of_cell hc0; simpa [Addr.add] using this
      refine ⟨a'.block, a'.off, ?_, ?_, fun j x hx => ?_⟩
      · obtain ⟨b, o, s⟩ := a'; cases hs; rfl
      · have := World.block_lt_of_cell? w _ hc0
        simpa [Addr.add] using this
      · have hj : j < len := by have := (List.getElem?_eq_some_iff.1 hx).1; simpa using this
        have hxj : x = V j := by simp [hj] at hx; exact hx.symm
        subst hxj
        have := (hel j (by omega)).1
        rwa [add_plain _ hs] at this
    · have hj : j < len := by have := (List.getElem?_eq_some_iff.1 hx).1; simpa using this
      have hxj : x = V j := by simp [hj] at hx; exact hx.symm
      have hlj : l = L j := by simp [hj] at hl; exact hl.symm
      subst hxj; subst hlj
      exact (hL j hj).1
    · obtain ⟨j, hj, rfl⟩ := List.mem_map.1 hlm
      have := hL j (by simpa using hj)
      exact ⟨this.2.1, this.2.2⟩
theorem open_bytesZ {r : Reach} {b0 : Nat} {v : Value} {d : DataW H} {p : List MemPlace} (hv : Value.okWide Try.prog w r b0 59 v) (h : DataW.Trod enc Try.prog w base spare held 59 v d p) (hz : ∀ n ∈ d.weights Try.prog 59, n ≤ reachBytes) : ∃ q n cap l, v = .slice q n cap ∧ SlZ w (.slice q n cap) l := by
  obtain ⟨a, len, cap, rfl⟩ := okWide_slice Try.underlying59 hv
  obtain ⟨fuel, hf⟩ := h
  obtain ⟨q, n, c, l, e, hs⟩ := bytesZ hf hz
  have e1 : (Value.slice a len cap) = .slice q n c := by simpa [Value.cells] using e
  exact ⟨q, n, c, l, e1, hs⟩
theorem open_listsZ {r : Reach} {b0 : Nat} {v : Value} {d : DataW H} {p : List MemPlace} (hv : Value.okWide Try.prog w r b0 65 v) (h : DataW.Trod enc Try.prog w base spare held 65 v d p) (hz : ∀ n ∈ d.weights Try.prog 65, n ≤ reachBytes) : ∃ q n cap vs ls, v = .slice q n cap ∧ LsZ w (.slice q n cap) vs ls := by
  obtain ⟨a, len, cap, rfl⟩ := okWide_slice Try.underlying65 hv
  obtain ⟨fuel, hf⟩ := h
  obtain ⟨q, n, c, vs, ls, e, hs⟩ := listsZ hf hz
  have e1 : (Value.slice a len cap) = .slice q n c := by simpa [Value.cells] using e
  exact ⟨q, n, c, vs, ls, e1, hs⟩
theorem dy_struct {r : Reach} {b0 n : Nat} {t : TypeId} {fs : Array Field} {v : Value} {d : DataW H} {p : List MemPlace} (hu : P.underlying t = some (.struct fs)) (hC : P.cellsOf t = n)
    (hv : Value.okWide P w r b0 t v) (h : DataW.Trod enc P w base spare held t v d p) :
    ∃ cs : Array Value, v = .agg cs ∧ cs.size = n ∧ ∃ m xs, d = .agg xs ∧ ∀ (i : Nat) (f : Field), fs[i]? = some f → ∃ x, xs[i]? = some x.1 ∧ DataW.trod enc P w base spare held m f.type ((cs.toList.drop f.offset).take (P.cellsOf f.type)) = some x := by
  obtain ⟨cs, rfl, hs⟩ : ∃ cs, v = .agg cs ∧ cs.size = P.cellsOf t := by
    simp only [Value.okWide, hu] at hv
    obtain ⟨cs, h1, h2, _⟩ := hv; exact ⟨cs, h1, h2⟩
  obtain ⟨fuel, hf⟩ := h
  obtain ⟨xs, m, _, he, _, hl, hx⟩ := DataW.trod_struct hu hf
  cases he
  refine ⟨cs, rfl, hs.trans hC, m, _, rfl, fun i f hi => ?_⟩
  have := hx i f hi
  have hlt : i < xs.length := by rw [hl]; exact (Array.getElem?_eq_some_iff.1 hi).1
  rw [List.getElem?_eq_getElem hlt] at this
  exact ⟨xs[i], by rw [List.getElem?_map, List.getElem?_eq_getElem hlt]; rfl, by simpa [Value.cells] using this⟩
/-- A number, a truth value that came in within a struct. -/
theorem i64_of {fuel : Nat} {e : Value} {x : DataW H × List MemPlace} (hf : DataW.trod enc Try.prog w base spare held fuel 3 [e] = some x) : ∃ a, e = .int .i64 a ∧ -9223372036854775808 ≤ a ∧ a ≤ 9223372036854775807 := by
  obtain ⟨a, e1, -, e2⟩ := DataW.trod_int Try.underlying3 hf
  exact ⟨a, by simpa using e1, bounds_i64 e2⟩
theorem bool_of {fuel : Nat} {e : Value} {x : DataW H × List MemPlace} (hf : DataW.trod enc Try.prog w base spare held fuel 4 [e] = some x) : ∃ a, e = .bool a := by
  obtain ⟨a, e1, -⟩ := DataW.trod_bool Try.underlying4 hf
  exact ⟨a, by simpa using e1⟩
abbrev I64 (a : Int) : Prop := -9223372036854775808 ≤ a ∧ a ≤ 9223372036854775807
end
end Go.Proofs.Ytlhamckpgijjmaa
namespace Go.Proofs.Ytlhamckpgijjmaa
open Go.ChangeShapes Go.WideShapes Go.ChangeAt Go.RowKit
set_option linter.unusedVariables false

/-- A call: its kind, its bytes, its number. -/
structure OpD where
  kd : Int
  nn : Int
  v : Value
  l : List Nat
/-- A call in memory. -/
structure OpAt (W : World) (g o : Nat) (x : OpD) : Prop where
  c0 : W.cell? ⟨g, o, none⟩ = some (.int .i64 x.kd)
  c1 : W.cell? ⟨g, o + 1, none⟩ = some x.v
  c2 : W.cell? ⟨g, o + 2, none⟩ = some (.int .i64 x.nn)
  sl : Sl W x.v x.l
  bk : -9223372036854775808 ≤ x.kd ∧ x.kd ≤ 9223372036854775807
  bn : -9223372036854775808 ≤ x.nn ∧ x.nn ≤ 9223372036854775807
structure Sc (W : World) (q : Option Addr) (n cap g off : Nat) (os : List OpD) : Prop where
  len : os.length = n
  fits : n ≤ cap
  max : cap ≤ 9223372036854775807
  ptr : 0 < n → q = some ⟨g, off, none⟩
  lt : 0 < n → g < W.heap.size
  row : ∀ j x, os[j]? = some x → OpAt W g (off + j * 3) x
  few : n ≤ 3518437208780
section
variable {H : Type} {enc : TypeId × Value → H} {w : World} {base : Nat} {spare : Nat → Bool} {held : Bool}
end
theorem OpAt.keep {W W' : World} {g o : Nat} {x : OpD} (h : OpAt W g o x) (hg : g < W.heap.size) (hb : Below W.heap.size W W') : OpAt W' g o x :=
  ⟨keep_cell hb h.c0 hg, keep_cell hb h.c1 hg, keep_cell hb h.c2 hg, h.sl.keep hb, h.bk, h.bn⟩
end Go.Proofs.Ytlhamckpgijjmaa
