/-
  Keeper: what one is in memory; its registers as they are read.
  Keeper: a register is made sure, and then the key's, where the diary has few rows.
  Keeper: a register is made sure, and then the key's, where the diary has few rows.
  Keeper: Handle of a note that has no answer, and of a nil keeper.
  Keeper: Handle of a note whose ballot is stale.
  Keeper: Handle of a note that asks what isn't in form.
  Keeper: what stays while one is at work.
-/
import Derived.Test.YtlhamckpgijjmaaPk46
import Derived.Test.YtlhamckpgijjmaaPk34
import Derived.Test.YtlhamckpgijjmaaPk36
namespace Go.Proofs.Ytlhamckpgijjmaa
open Go.RowKit
set_option linter.unusedVariables false
set_option maxRecDepth 100000

section
variable {α : Type} {enc : α → List Value} {k : Nat}
theorem kfl_len (he : ∀ x, (enc x).length = k) (xs : List α) : (xs.flatMap enc).length = xs.length * k := by
  induction xs with
  | nil => simp
  | cons x r ih => rw [List.flatMap_cons, List.length_append, he, ih, List.length_cons, Nat.add_mul]; omega
theorem kfl_at (he : ∀ x, (enc x).length = k) : ∀ {xs : List α} {j i : Nat} {x : α}, xs[j]? = some x → i < k → (xs.flatMap enc)[j * k + i]? = (enc x)[i]? := by
  intro xs
  induction xs with
  | nil => intro j i x h; simp at h
  | cons y r ih =>
    intro j i x h hi
    rw [List.flatMap_cons]
    cases j with
    | zero =>
      simp at h
      subst h
      rw [Nat.zero_mul, Nat.zero_add, List.getElem?_append_left (by rw [he]; exact hi)]
    | succ j =>
      have h2 : r[j]? = some x := by simpa using h
      rw [List.getElem?_append_right (by rw [he, Nat.add_mul]; omega), he, show (j + 1) * k + i - k = j * k + i by rw [Nat.add_mul]; omega]
      exact ih h2 hi
end
/-- A register with its slice. -/
structure KD where
  p : Bt
  a : Bt
  v : Value
  l : List Int
def encK (x : KD) : List Value := (rC x.p x.a x.v).toList
theorem encK_len (x : KD) : (encK x).length = 7 := rfl
def rgK (x : KD) : Rg := ⟨x.p, x.a, x.l⟩
def kpC (d : Nat) (node : Int) (os : List KD) : Array Value := (tptr d :: .int .i64 node :: os.flatMap encK).toArray
/-- A keeper at block kb, its diary at d, its tape at b with its own bytes v. -/
structure Kp (W : World) (base b : Nat) (v : Value) (d kb : Nat) (S : TS) (nr nb : Nat) (node : Int) (os : List KD) : Prop where
  tp : Tp W base b v S
  dy : Blk W d (dcs b nr nb) 103
  kp : Blk W kb (kpC d node os) 70
  len : os.length = 100
  im : ∀ r ∈ os, Io W base r.v r.l
  gd : base ≤ d
  gk : base ≤ kb
theorem kp_at {W : World} {kb d : Nat} {node : Int} {os : List KD} (h : Blk W kb (kpC d node os) 70) {key i : Nat} {x : KD} {u : Value} (hx : os[key]? = some x) (hi : i < 7) (hu : (encK x)[i]? = some u) : W.cell? ⟨kb, 2 + key * 7 + i, none⟩ = some u := by
  refine h.at ?_
  unfold kpC
  rw [List.getElem?_toArray, show 2 + key * 7 + i = (key * 7 + i) + 1 + 1 by omega, List.getElem?_cons_succ, List.getElem?_cons_succ, kfl_at encK_len hx hi]
  exact hu
theorem kp_0 {W : World} {kb d : Nat} {node : Int} {os : List KD} (h : Blk W kb (kpC d node os) 70) : W.cell? ⟨kb, 0, none⟩ = some (tptr d) ∧ W.cell? ⟨kb, 1, none⟩ = some (.int .i64 node) := ⟨h.at (i := 0) rfl, h.at (i := 1) rfl⟩
theorem krows_any (b d kb nr nb : Nat) (node : Int) (os : List KD) (w : World) (hk : Blk w kb (kpC d node os) 70) (hD : Blk w d (dcs b nr nb) 103) :
    Calls Try.prog 19 #[tptr kb] w fun e w' => e = .returned (.int .i64 (nr : Int)) ∧ w' = w := by
  have c0 := (kp_0 hk).1
  go_enter Try.func19, Try.ntmps19
  go_wp2_with fail
  refine (dlen_any b d nr nb w hD).mono ?_
  rintro e w ⟨rfl, rfl⟩
  go_wp2_with fail
  go_ret
  exact ⟨rfl, rfl⟩
theorem krows_nil (w : World) : Calls Try.prog 19 #[.pointer none] w fun e w' => e = .returned (.int .i64 0) ∧ w' = w := by
  go_enter Try.func19, Try.ntmps19
  go_wp2_with fail
  go_ret
  exact ⟨rfl, rfl⟩
/-- A register with a slice of its own. -/
def RegE (W : World) (base : Nat) (r : Rg) (e : Ending) : Prop := ∃ q n c, e = .returned (rV r.p r.a (.slice q n c)) ∧ Io W base (.slice q n c) r.l ∧ r.l.length = n
set_option maxHeartbeats 1000000 in
theorem kregister_nil (k : Int) (w : World) : Calls Try.prog 11 #[.pointer none, .int .i64 k] w fun e w' => RegE w' w.heap.size zR e ∧ Below w.heap.size w w' := by
  go_enter Try.func11, Try.ntmps11
  go_upto_region 1 with fail
  obtain ⟨A, hAe, hB, bA⟩ := blk1 w (rC zB zB (.slice none 0 0)) 40
  rw [show w.alloc (.cells #[.int .i64 0, .int .i64 0, .int .i64 0, .int .i64 0, .int .i64 0, .int .i64 0, .slice none 0 0] 40) = A from hAe]
  clear hAe
  go_wp2_with (refine st_rg rfl rfl (p1 := zB) (a1 := zB) hB rfl rfl ?_; intro W5 hB5 C5)
  exact bodyPost_ret (results_cell_row rfl _ _ _ 40 _ (0, 0) _ rfl hB5 Try.underlying40 rfl (info_rg zB zB _)) rfl ⟨⟨none, 0, 0, rfl, Io.nil _ _, rfl⟩, ab_chg bA C5 (Nat.le_refl _)⟩
set_option maxHeartbeats 2000000 in
theorem kregister_any (kb d key : Nat) (node : Int) (os : List KD) (x : KD) (w : World) (hk : Blk w kb (kpC d node os) 70) (hx : os[key]? = some x) (h100 : key < 100) (hi : Is w x.v x.l) (hl : x.l.length ≤ 100000) :
    Calls Try.prog 11 #[tptr kb, .int .i64 (key : Int)] w fun e w' => RegE w' w.heap.size (rgK x) e ∧ Below w.heap.size w w' := by
  obtain ⟨p, a, v, l⟩ := x
  dsimp only at hi hl
  obtain ⟨q1, c1, e1⟩ := hi.form
  obtain ⟨n, hn⟩ : ∃ n, l.length = n := ⟨_, rfl⟩
  rw [hn] at e1
  subst e1
  go_enter Try.func11, Try.ntmps11
  go_upto_region 1 with fail
  obtain ⟨A, hAe, hB, bA⟩ := blk1 w (rC zB zB (.slice none 0 0)) 40
  rw [show w.alloc (.cells #[.int .i64 0, .int .i64 0, .int .i64 0, .int .i64 0, .int .i64 0, .int .i64 0, .slice none 0 0] 40) = A from hAe]
  clear hAe
  have hkA := hk.keep bA
  have C : ∀ i u, i < 7 → (encK ⟨p, a, .slice q1 n c1, l⟩)[i]? = some u → A.cell? ⟨kb, 2 + key * 7 + i, none⟩ = some u := fun i u hi hu => kp_at hkA hx hi hu
  have x0 : A.cell? ⟨kb, 2 + key * 7, none⟩ = some (.int .i64 p.n) := C 0 _ (by omega) rfl
  have x1 : A.cell? ⟨kb, 2 + key * 7 + 1, none⟩ = some (.int .i64 p.nd) := C 1 _ (by omega) rfl
  have x2 : A.cell? ⟨kb, 2 + key * 7 + 2, none⟩ = some (.int .i64 p.lf) := C 2 _ (by omega) rfl
  have x3 : A.cell? ⟨kb, 2 + key * 7 + 3, none⟩ = some (.int .i64 a.n) := C 3 _ (by omega) rfl
  have x4 : A.cell? ⟨kb, 2 + key * 7 + 4, none⟩ = some (.int .i64 a.nd) := C 4 _ (by omega) rfl
  have x5 : A.cell? ⟨kb, 2 + key * 7 + 5, none⟩ = some (.int .i64 a.lf) := C 5 _ (by omega) rfl
  have x6 : A.cell? ⟨kb, 2 + key * 7 + 6, none⟩ = some (.slice q1 n c1) := C 6 _ (by omega) rfl
  clear C
  have hkey : keyB (key : Int) = true := keyB_iff.2 ⟨by omega, by omega⟩
  have k1 : (key : Int) < 100 := by omega
  go_wp2_with fail
  refine (iskey_any (key : Int) _).mono ?_
  rintro e A ⟨rfl, rfl⟩
  rw [hkey]
  go_upto_region 4 with fail
  obtain ⟨V, hVe, hV, bV⟩ := blk1 A (rC p a (.slice q1 n c1)) 40
  rw [show A.alloc (.cells _ 40) = V from hVe]
  clear hVe x0 x1 x2 x3 x4 x5 x6
  have bW := ab_trans bA bV
  have y6 := hV.at (i := 6) rfl
  go_wp2_with fail
  refine (kclone_any _ l V (hi.keep bW) hl).mono ?_
  rintro e W1 ⟨v1, rfl, O1, b1⟩
  obtain ⟨q2, c2, e2⟩ := O1.is.form
  rw [hn] at e2
  subst e2
  have hV1 := hV.keep b1
  have hB1 := hB.keep (ab_trans bV b1)
  have y6' := hV1.at (i := 6) rfl
  have fz := hV1.frozen 6
  clear y6
  go_upto_region 5 with fail
  have hV2 := hV1.set 6 (.slice q2 n c2)
  have C2 := chg_set W1 A.heap.size 6 (.slice q2 n c2)
  have hne : w.heap.size ≠ A.heap.size := by have := hB.lt; omega
  have hB2 : Blk (W1.setCell ⟨A.heap.size, 6, none⟩ (.slice q2 n c2)) w.heap.size (rC zB zB (.slice none 0 0)) 40 := by
    unfold Blk at *
    rw [C2.other _ hne]
    exact hB1
  have O2 : Io (W1.setCell ⟨A.heap.size, 6, none⟩ (.slice q2 n c2)) V.heap.size (.slice q2 n c2) l := io_chg O1 C2 hV.lt
  generalize W1.setCell ⟨A.heap.size, 6, none⟩ (.slice q2 n c2) = W2 at *
  clear y6' fz
  have t0 := hV2.at (i := 0) rfl
  have t1 := hV2.at (i := 1) rfl
  have t2 := hV2.at (i := 2) rfl
  have t3 := hV2.at (i := 3) rfl
  have t4 := hV2.at (i := 4) rfl
  have t5 := hV2.at (i := 5) rfl
  have t6 := hV2.at (i := 6) rfl
  go_wp2_with (refine st_rg rfl rfl (p1 := p) (a1 := a) hB2 rfl rfl ?_; intro W5 hB5 C5)
  exact bodyPost_ret (results_cell_row rfl _ _ _ 40 _ (0, 0) _ rfl hB5 Try.underlying40 rfl (info_rg p a _)) rfl ⟨⟨q2, n, c2, rfl, (io_chg O2 C5 (Nat.lt_of_lt_of_le hB.lt bV.size)).less bW.size, hn⟩, ab_chg (ab_chg (ab_trans bW b1) C2 bA.size) C5 (Nat.le_refl _)⟩
end Go.Proofs.Ytlhamckpgijjmaa
namespace Go.Proofs.Ytlhamckpgijjmaa
open Go.RowKit
set_option linter.unusedVariables false
set_option maxRecDepth 100000

theorem kset_mid (t : TypeId) : ∀ (vs : List Value) (W : World) (g : Nat) (A B C : List Value), Blk W g (A ++ B ++ C).toArray t → B.length = vs.length → Blk (W.setCells g A.length vs) g (A ++ vs ++ C).toArray t ∧ Chg g W (W.setCells g A.length vs)
  | [], W, g, A, B, C, h, hl => by
    have : B = [] := List.eq_nil_of_length_eq_zero hl
    subst this
    exact ⟨h, Chg.refl _ _⟩
  | v :: vs, W, g, A, [], C, h, hl => by simp at hl
  | v :: vs, W, g, A, b :: B, C, h, hl => by
    have h1 := h.set A.length v
    have e : (A ++ (b :: B) ++ C).toArray.setIfInBounds A.length v = ((A ++ [v]) ++ B ++ C).toArray := by
      apply Array.ext'
      simp
    rw [e] at h1
    obtain ⟨h2, h3⟩ := kset_mid t vs _ g (A ++ [v]) B C h1 (by simpa using hl)
    have e2 : (A ++ [v]).length = A.length + 1 := by simp
    rw [e2] at h2 h3
    refine ⟨?_, (chg_set W g A.length v).trans h3⟩
    have e3 : A ++ [v] ++ vs ++ C = A ++ (v :: vs) ++ C := by simp
    rw [e3] at h2
    exact h2
theorem kstM {P : Program} {o : Oper} {a : Act} {w : World} {K : Act → World → Prop} {Q : Exit → Act → World → Prop} (d : Option Tmp) (hd : o.dst = d) (ty : TypeId) (x y : Operand) (ho : o.op = .store ty x y) (b i : Nat) (cells : Array Value) (hx : a.eval x = .pointer (some ⟨b, i, none⟩)) (hy : a.eval y = .agg cells)
    (ht : w.there b i cells.size) (hi : (P.info? ty).map (·.size) = some cells.size) (h1 : cells.all (·.oneCell') = true) (h : K (a.put d undef) (w.setCells b i cells.toList)) : o.wp P a w K Q := by
  subst hd
  exact wp_store_mid ty x y ho b i cells hx hy ht hi h1 h
theorem flK_cut {os : List KD} {m : Nat} {r : KD} (h : os[m]? = some r) : os.flatMap encK = (os.take m).flatMap encK ++ encK r ++ (os.drop (m + 1)).flatMap encK := by
  have hm : m < os.length := (List.getElem?_eq_some_iff.1 h).1
  have e : os = os.take m ++ r :: os.drop (m + 1) := by
    have := List.take_append_drop m os
    rw [← this]
    rw [List.getElem?_eq_getElem hm] at h
    cases h
    simp
  conv => lhs; rw [e]
  rw [List.flatMap_append, List.flatMap_cons, List.append_assoc]
theorem kp_stored {W : World} {kb d m : Nat} {node : Int} {os : List KD} (h : Blk W kb (kpC d node os) 70) (hm : m < os.length) (r : KD) :
    Blk (W.setCells kb (2 + m * 7) (encK r)) kb (kpC d node (os.set m r)) 70 ∧ Chg kb W (W.setCells kb (2 + m * 7) (encK r)) ∧ W.there kb (2 + m * 7) 7 := by
  have h0 : os[m]? = some os[m] := List.getElem?_eq_getElem hm
  have hl : (tptr d :: .int .i64 node :: (os.take m).flatMap encK).length = 2 + m * 7 := by
    rw [List.length_cons, List.length_cons, kfl_len encK_len, List.length_take]
    have : min m os.length = m := by omega
    rw [this]
    omega
  have hB := h
  unfold kpC at hB
  rw [flK_cut h0] at hB
  obtain ⟨h1, h2⟩ := kset_mid 70 (encK r) W kb (tptr d :: .int .i64 node :: (os.take m).flatMap encK) (encK os[m]) ((os.drop (m + 1)).flatMap encK) hB rfl
  rw [hl] at h1 h2
  have e : kpC d node (os.set m r) = ((tptr d :: .int .i64 node :: (os.take m).flatMap encK) ++ encK r ++ (os.drop (m + 1)).flatMap encK).toArray := by
    have h3 : (os.set m r)[m]? = some r := by rw [List.getElem?_set_self hm]
    unfold kpC
    rw [flK_cut h3, List.take_set_of_le (Nat.le_refl _), List.drop_set_of_lt (by omega)]
    rfl
  rw [e]
  refine ⟨h1, h2, fun j hj => ⟨?_, h.frozen _⟩⟩
  rw [h.cell]
  have hz : 2 + m * 7 + j < (kpC d node os).size := by
    unfold kpC
    simp only [List.size_toArray, List.length_cons, kfl_len encK_len]
    omega
  rw [Array.getElem?_eq_getElem hz]
  rfl
end Go.Proofs.Ytlhamckpgijjmaa
namespace Go.Proofs.Ytlhamckpgijjmaa
open Go.RowKit
set_option linter.unusedVariables false
set_option maxRecDepth 100000

/-- Nothing but a keeper's own memory has turned. -/
structure Km (b d kb : Nat) (w w' : World) (v v' : Value) : Prop where
  os : w'.os = w.os
  tape : w'.tape = w.tape
  output : w'.output = w.output
  size : w.heap.size ≤ w'.heap.size
  other : ∀ k, k < w.heap.size → k ≠ b → k ≠ d → k ≠ kb → v.ownBlock ≠ some k → w'.heap[k]? = w.heap[k]?
  next : ∀ x, v'.ownBlock = some x → v.ownBlock = some x ∨ w.heap.size ≤ x
theorem Mw.km {b d kb : Nat} {w w' : World} {v v' : Value} (h : Mw b d w w' v v') : Km b d kb w w' v v' := ⟨h.os, h.tape, h.output, h.size, fun k hk h1 h2 _ h4 => h.other k hk h1 h2 h4, h.next⟩
theorem Km.chg {b d kb : Nat} {w w' w'' : World} {v v' : Value} (h : Km b d kb w w' v v') (c : Chg kb w' w'') : Km b d kb w w'' v v' :=
  ⟨c.os.trans h.os, c.tape.trans h.tape, c.output.trans h.output, by rw [c.size]; exact h.size, fun k hk h1 h2 h3 h4 => (c.other k h3).trans (h.other k hk h1 h2 h3 h4), h.next⟩
theorem Km.below {b d kb : Nat} {w w' w'' : World} {v v' : Value} (h : Km b d kb w w' v v') (k : Below w'.heap.size w' w'') : Km b d kb w w'' v v' :=
  ⟨k.os.trans h.os, k.tape.trans h.tape, k.output.trans h.output, Nat.le_trans h.size k.size, fun i hi h1 h2 h3 h4 => (k.block i (Nat.lt_of_lt_of_le hi h.size)).trans (h.other i hi h1 h2 h3 h4), h.next⟩
theorem tp_chg {W W' : World} {base b g : Nat} {v : Value} {S : TS} (h : Tp W base b v S) (c : Chg g W W') (h1 : b ≠ g) (h2 : v.ownBlock ≠ some g) : Tp W' base b v S :=
  ⟨h.ge, h.blk.chg c h1, own_chgT h.own c h2, h.sure, h.max, h.bo, h.br⟩
set_option maxHeartbeats 4000000 in
theorem kkeep_few (base b : Nat) (v : Value) (d kb : Nat) (S : TS) (nr nb : Nat) (node : Int) (os : List KD) (key : Nat) (r : Rg) (q : Option Addr) (n c : Nat) (w : World) (hKp : Kp w base b v d kb S nr nb node os) (hst : S.steps < 4611686018427387000) (hnr : nr ≤ 200) (hnb : nb ≤ 4611686018427387904) (hk : key < 100)
    (hv : Io w base (.slice q n c) r.l) (hl : r.l.length ≤ 1000) (h6 : In64 (nmR r)) (hby : Byt (rowB (key : Int) r)) (hrl : (rowB (key : Int) r).length ≤ 16376) :
    Calls Try.prog 30 #[tptr kb, .int .i64 (key : Int), rV r.p r.a (.slice q n c)] w fun e w' => e = .returned (errV (wrN S (frm (rowB (key : Int) r)))) ∧ ∃ v',
      (wrN S (frm (rowB (key : Int) r)) = 0 → Kp w' base b v' d kb (wrS S (frm (rowB (key : Int) r))) (nr + 1) (nb + (8 + (rowB (key : Int) r).length)) node (os.set key ⟨r.p, r.a, .slice q n c, r.l⟩)) ∧
      (wrN S (frm (rowB (key : Int) r)) ≠ 0 → Kp w' base b v' d kb (wrS S (frm (rowB (key : Int) r))) nr nb node os) ∧ Km b d kb w w' v v' := by
  have i1 : ¬ 200 < (nr : Int) := by omega
  have k1 : (key : Int) < 100 := by omega
  go_enter Try.func30, Try.ntmps30
  go_upto_region 1 with fail
  obtain ⟨A, hAe, hB, bA⟩ := blk1 w (rC r.p r.a (.slice q n c)) 40
  rw [show w.alloc (.cells _ 40) = A from hAe]
  clear hAe
  have hTA := hKp.tp.keep bA
  have hDA := hKp.dy.keep bA
  have hkA := hKp.kp.keep bA
  have hvA := hv.keep bA
  have c0 := (kp_0 hkA).1
  go_wp2_with fail
  refine (dlen_any b d nr nb A hDA).mono ?_
  rintro e A ⟨rfl, rfl⟩
  go_upto_region 5 with fail
  clear c0 i1
  refine region_L 7 (S := fun w' => Below A.heap.size A w') (by kernel_rfl) ((Below.refl _ _).drew) (fun hHeld => ?_)
  have hdr : Below A.heap.size A A.drew := hHeld
  generalize A.drew = V0 at *
  refine takeP (i := 0) (some 25) (by rfl) rfl rfl (by kernel_rfl) (by kernel_rfl) (by kernel_rfl) (fun _ _ _ h => h) (by rfl) (fun w => by go_simp; try rfl) hHeld ?_
  go_frame
  refine takeP (i := 1) (some 26) (by rfl) rfl rfl (by kernel_rfl) (by kernel_rfl) (by kernel_rfl) (fun _ _ _ h => h) (by rfl) (fun w => by go_simp; try rfl) hHeld ?_
  go_frame
  refine takeP (i := 2) (some 27) (by rfl) rfl rfl (by kernel_rfl) (by kernel_rfl) (by kernel_rfl) (fun _ _ _ h => h) (by rfl) (fun w => by go_simp; try rfl) hHeld ?_
  go_frame
  refine takeP (i := 4) (some 29) (by rfl) rfl rfl (by kernel_rfl) (by kernel_rfl) (by kernel_rfl) (fun _ _ _ h => h) (by rfl) (fun w => by go_simp; try rfl) hHeld ?_
  go_frame
  refine takeL (i := 3) [7] (some 28) (by rfl) rfl rfl (by kernel_rfl) (by kernel_rfl) (by kernel_rfl) (by kernel_rfl) (fun _ _ _ h => h) (by rfl) (fun w hSw => by (try dsimp only at hSw); (have hh := (kp_0 (hkA.keep hSw)).1; go_simp; try rfl)) hHeld ?_
  go_frame
  refine takeL (i := 5) [6, 7] (some 30) (by rfl) rfl rfl (by kernel_rfl) (by kernel_rfl) (by kernel_rfl) (by kernel_rfl) (fun _ _ _ h => h) (by rfl) (fun w hSw => by (try dsimp only at hSw); (have hh := hB.keep hSw; have t0 := hh.at (i := 0) rfl; have t1 := hh.at (i := 1) rfl; have t2 := hh.at (i := 2) rfl; have t3 := hh.at (i := 3) rfl; have t4 := hh.at (i := 4) rfl; have t5 := hh.at (i := 5) rfl; have t6 := hh.at (i := 6) rfl; go_simp; try rfl)) hHeld ?_
  go_frame
  refine anyL_ready (rs := [6]) (by kernel_rfl) (by simp) (AllL.cons rfl (fun K hK => ?_) AllL.nil)
  go_simp
  refine (krow_any (key : Int) r (.slice q n c) V0 (hvA.keep hdr).is hl (fun x hx => by rw [List.mem_singleton.1 hx]; omega) h6).mono ?_
  rintro e W1 ⟨v1, rfl, O1, b1⟩
  show K _ _
  have hb1 := ab_trans hdr b1
  refine hK.out _ _ hb1 (fun hHeld => ?_)
  clear hK K
  try go_frame
  refine anyL_ready (rs := [7]) (by kernel_rfl) (by simp) (AllL.last rfl (by kernel_rfl) (fun K hK => ?_))
  go_simp
  refine (dadd_any base b d nr nb v v1 (rowB (key : Int) r) S W1 (hTA.keep hb1) hst (hDA.keep hb1) O1.sl hby hrl (by omega) hnb).mono ?_
  rintro e W2 ⟨rfl, v', hT2, mw, hz, hnz⟩
  have hT1 := hTA.keep hb1
  have hD1 := hDA.keep hb1
  have hk1 := hkA.keep hb1
  have hX1 := hB.keep hb1
  have hkW : Blk W2 kb (kpC d node os) 70 := mw.blk hk1 (blk_ne hk1 hT1.blk (by decide)) (blk_ne hk1 hD1 (by decide)) (blk_own hT1.own hk1 (by decide))
  have hXW : Blk W2 w.heap.size (rC r.p r.a (.slice q n c)) 40 := mw.blk hX1 (blk_ne hX1 hT1.blk (by decide)) (blk_ne hX1 hD1 (by decide)) (blk_own hT1.own hX1 (by decide))
  have imk : ∀ x ∈ os, Io W2 base x.v x.l := fun x hx => own_mw (((hKp.im x hx).keep bA).keep hb1) hT1 hD1 mw (by decide) (by decide) (by decide)
  have hvW : Io W2 base (.slice q n c) r.l := own_mw (hvA.keep hb1) hT1 hD1 mw (by decide) (by decide) (by decide)
  have mwm : Km b d kb w W2 v v' := ((mw_below v (ab_trans bA hb1)).trans mw).km
  clear hT1 hD1 hk1 hX1 mw
  rcases wrN_of S (frm (rowB (key : Int) r)) with hN | hN | hN | hN
  · rw [hN]
    rw [show errV 0 = .nilIface from rfl]
    have HN : Hid (wrN S (frm (rowB (key : Int) r)) = 0) := hN
    have hD2 := hz hN
    clear hN hz hnz
    show K _ _
    refine hK.out _ _ ?_
    clear hK K
    try go_frame
    refine anyL_ready (rs := [8]) (by kernel_rfl) (by simp) (AllL.free rfl (by kernel_rfl) (fun K hK => ?_))
    go_simp
    refine hK.out _ _ ?_
    clear hK K
    refine anyL_done (by kernel_rfl) ?_
    have E1 := ne00
    go_upto_region 8 with fail
    clear E1
    refine region_L 6 (S := fun w' => Below W2.heap.size W2 w') (by kernel_rfl) ((Below.refl _ _).drew) (fun hHeld => ?_)
    have hd2 : Below W2.heap.size W2 W2.drew := hHeld
    generalize W2.drew = V3 at *
    refine takeP (i := 0) (some 36) (by rfl) rfl rfl (by kernel_rfl) (by kernel_rfl) (by kernel_rfl) (fun _ _ _ h => h) (by rfl) (fun w => by go_simp; try rfl) hHeld ?_
    go_frame
    refine takeP (i := 1) (some 37) (by rfl) rfl rfl (by kernel_rfl) (by kernel_rfl) (by kernel_rfl) (fun _ _ _ h => h) (by rfl) (fun w => by go_simp; try rfl) hHeld ?_
    go_frame
    refine takeL (i := 2) [6] (some 38) (by rfl) rfl rfl (by kernel_rfl) (by kernel_rfl) (by kernel_rfl) (by kernel_rfl) (fun _ _ _ h => h) (by rfl) (fun w hSw => by (try dsimp only at hSw); (have hh := hXW.keep hSw; have t0 := hh.at (i := 0) rfl; have t1 := hh.at (i := 1) rfl; have t2 := hh.at (i := 2) rfl; have t3 := hh.at (i := 3) rfl; have t4 := hh.at (i := 4) rfl; have t5 := hh.at (i := 5) rfl; have t6 := hh.at (i := 6) rfl; go_simp; try rfl)) hHeld ?_
    go_frame
    refine takeP (i := 3) (some 39) (by rfl) rfl rfl (by kernel_rfl) (by kernel_rfl) (by kernel_rfl) (fun _ _ _ h => h) (by rfl) (fun w => by go_simp; try rfl) hHeld ?_
    go_frame
    refine takeP (i := 4) (some 40) (by rfl) rfl rfl (by kernel_rfl) (by kernel_rfl) (by kernel_rfl) (fun _ _ _ h => h) (by rfl) (fun w => by go_simp; try rfl) hHeld ?_
    go_frame
    refine takeP (i := 5) (some 41) (by rfl) rfl rfl (by kernel_rfl) (by kernel_rfl) (by kernel_rfl) (fun _ _ _ h => h) (by rfl) (fun w => by go_simp; try rfl) hHeld ?_
    go_frame
    obtain ⟨s1, s2, s3⟩ := kp_stored (hkW.keep hd2) (m := key) (by rw [hKp.len]; exact hk) ⟨r.p, r.a, .slice q n c, r.l⟩
    refine anyL_ready (rs := [6]) (by kernel_rfl) (by simp) (AllL.last rfl (by kernel_rfl) (fun K hK => ?_))
    rw [if_pos (by rfl)]
    refine kstM none rfl 40 _ _ rfl kb (2 + key * 7) (rC r.p r.a (.slice q n c)) rfl rfl s3 (info_rg _ _ _) (rg_one _ _ _ _ _) ?_
    change Blk (V3.setCells kb (2 + key * 7) (rC r.p r.a (.slice q n c)).toList) kb _ _ at s1
    change Chg kb V3 (V3.setCells kb (2 + key * 7) (rC r.p r.a (.slice q n c)).toList) at s2
    have hTk := hT2.keep hd2
    have hDk := hD2.keep hd2
    have hkk := hkW.keep hd2
    have imx : ∀ x ∈ os.set key ⟨r.p, r.a, .slice q n c, r.l⟩, Io V3 base x.v x.l := fun x hx => by
      rcases List.mem_or_eq_of_mem_set hx with h | h
      · exact (imk x h).keep hd2
      · subst h; exact hvW.keep hd2
    generalize V3.setCells kb (2 + key * 7) (rC r.p r.a (.slice q n c)).toList = V4 at *
    refine hK.out _ _ ?_
    clear hK K
    refine anyL_done (by kernel_rfl) ?_
    go_wp2_with fail
    go_ret
    exact ⟨by rw [HN.out]; rfl, v', fun _ => ⟨tp_chg hTk s2 (blk_ne hTk.blk hkk (by decide)) (blk_own hTk.own hkk (by decide)), hDk.chg s2 (blk_ne hDk hkk (by decide)), s1, by rw [List.length_set]; exact hKp.len, fun x hx => own_chgT (imx x hx) s2 (blk_own (imx x hx) hkk (by decide)), hKp.gd, hKp.gk⟩, fun h => absurd HN.out h, (mwm.below hd2).chg s2⟩
  · rw [hN]
    rw [show errV 5 = Err 5 from rfl]
    have HN : Hid (wrN S (frm (rowB (key : Int) r)) = 5) := hN
    have hD2 := hnz (by rw [hN]; omega)
    clear hN hz hnz
    show K _ _
    refine hK.out _ _ ?_
    clear hK K
    try go_frame
    refine anyL_ready (rs := [8]) (by kernel_rfl) (by simp) (AllL.free rfl (by kernel_rfl) (fun K hK => ?_))
    go_simp
    refine hK.out _ _ ?_
    clear hK K
    refine anyL_done (by kernel_rfl) ?_
    have E1 := ne5n
    go_wp2_with fail
    go_ret
    exact ⟨by rw [HN.out]; rfl, v', fun h => (by rw [HN.out] at h; omega), fun _ => ⟨hT2, hD2, hkW, hKp.len, imk, hKp.gd, hKp.gk⟩, mwm⟩
  · rw [hN]
    rw [show errV 6 = Err 6 from rfl]
    have HN : Hid (wrN S (frm (rowB (key : Int) r)) = 6) := hN
    have hD2 := hnz (by rw [hN]; omega)
    clear hN hz hnz
    show K _ _
    refine hK.out _ _ ?_
    clear hK K
    try go_frame
    refine anyL_ready (rs := [8]) (by kernel_rfl) (by simp) (AllL.free rfl (by kernel_rfl) (fun K hK => ?_))
    go_simp
    refine hK.out _ _ ?_
    clear hK K
    refine anyL_done (by kernel_rfl) ?_
    have E1 := ne6n
    go_wp2_with fail
    go_ret
    exact ⟨by rw [HN.out]; rfl, v', fun h => (by rw [HN.out] at h; omega), fun _ => ⟨hT2, hD2, hkW, hKp.len, imk, hKp.gd, hKp.gk⟩, mwm⟩
  · rw [hN]
    rw [show errV 7 = Err 7 from rfl]
    have HN : Hid (wrN S (frm (rowB (key : Int) r)) = 7) := hN
    have hD2 := hnz (by rw [hN]; omega)
    clear hN hz hnz
    show K _ _
    refine hK.out _ _ ?_
    clear hK K
    try go_frame
    refine anyL_ready (rs := [8]) (by kernel_rfl) (by simp) (AllL.free rfl (by kernel_rfl) (fun K hK => ?_))
    go_simp
    refine hK.out _ _ ?_
    clear hK K
    refine anyL_done (by kernel_rfl) ?_
    have E1 := ne70
    go_wp2_with fail
    go_ret
    exact ⟨by rw [HN.out]; rfl, v', fun h => (by rw [HN.out] at h; omega), fun _ => ⟨hT2, hD2, hkW, hKp.len, imk, hKp.gd, hKp.gk⟩, mwm⟩
end Go.Proofs.Ytlhamckpgijjmaa
namespace Go.Proofs.Ytlhamckpgijjmaa
open Go.RowKit
set_option linter.unusedVariables false
set_option maxRecDepth 100000

theorem kasks_yes {N : Nt} {vn vo ve : Value} {w : World} (h : askB N) (h1 : Is w vn N.ns) (h2 : SR 5 k64 w vo N.os) (h3 : SR 76 ek w ve N.es) :
    Calls Try.prog 25 #[ntV N vn vo ve] w fun e w' => e = .returned (.bool true) ∧ Below w.heap.size w w' :=
  (kasks_any N vn vo ve w h1 h2 h3).mono fun e w' ⟨⟨b, he, hb⟩, hw⟩ => ⟨by rw [he, hb.2 h], hw⟩
theorem kasks_no {N : Nt} {vn vo ve : Value} {w : World} (h : ¬ askB N) (h1 : Is w vn N.ns) (h2 : SR 5 k64 w vo N.os) (h3 : SR 76 ek w ve N.es) :
    Calls Try.prog 25 #[ntV N vn vo ve] w fun e w' => e = .returned (.bool false) ∧ Below w.heap.size w w' :=
  (kasks_any N vn vo ve w h1 h2 h3).mono fun e w' ⟨⟨b, he, hb⟩, hw⟩ => ⟨by
    have : b = false := by cases b with | false => rfl | true => exact absurd (hb.1 rfl) h
    rw [he, this], hw⟩
set_option maxHeartbeats 2000000 in
theorem khandle_no (kb d : Nat) (node : Int) (os : List KD) (N : Nt) (vn vo ve : Value) (w : World) (hk : Blk w kb (kpC d node os) 70) (h1 : Is w vn N.ns) (h2 : SR 5 k64 w vo N.os) (h3 : SR 76 ek w ve N.es) (hno : N.t ≠ node ∨ ¬ askB N) :
    Calls Try.prog 12 #[tptr kb, ntV N vn vo ve] w fun e w' => e = .returned (.slice none 0 0) ∧ Below w.heap.size w w' := by
  have HA : Hid (¬ askB N → ∀ V, Below w.heap.size w V → Calls Try.prog 25 #[ntV N vn vo ve] V fun e w' => e = .returned (.bool false) ∧ Below V.heap.size V w') := fun h V hV => kasks_no h (h1.keep hV) (h2.keep hV) (h3.keep hV)
  have HO : Hid (N.t ≠ node ∨ ¬ askB N) := hno
  clear hno
  obtain ⟨q1, c1, e1⟩ := h1.form
  obtain ⟨q2, c2, -, -, e2, -⟩ := id h2
  obtain ⟨q3, c3, -, -, e3, -⟩ := id h3
  obtain ⟨k, f, t, ns, xs, es⟩ := N
  dsimp only at e1 e2 e3 HA HO ⊢
  generalize ns.length = n1 at *
  generalize xs.length = n2 at *
  generalize es.length = n3 at *
  subst e1
  subst e2
  subst e3
  clear h1 h2 h3
  go_enter Try.func12, Try.ntmps12
  go_upto_region 1 with fail
  obtain ⟨A, hAe, hB, bA⟩ := blk1 w (ntC k f t (.slice q1 n1 c1) (.slice q2 n2 c2) (.slice q3 n3 c3)) 35
  rw [show w.alloc (.cells _ 35) = A from hAe]
  clear hAe
  have hkA := hk.keep bA
  have y0 : ∀ y : Cls A, y.val.cell? ⟨w.heap.size, 0, none⟩ = some (.int .i64 k) := fun y => (hB.keep y.prop).at (i := 0) rfl
  have y1 : ∀ y : Cls A, y.val.cell? ⟨w.heap.size, 1, none⟩ = some (.int .i64 f) := fun y => (hB.keep y.prop).at (i := 1) rfl
  have y2 : ∀ y : Cls A, y.val.cell? ⟨w.heap.size, 2, none⟩ = some (.int .i64 t) := fun y => (hB.keep y.prop).at (i := 2) rfl
  have y3 : ∀ y : Cls A, y.val.cell? ⟨w.heap.size, 3, none⟩ = some (.slice q1 n1 c1) := fun y => (hB.keep y.prop).at (i := 3) rfl
  have y4 : ∀ y : Cls A, y.val.cell? ⟨w.heap.size, 4, none⟩ = some (.slice q2 n2 c2) := fun y => (hB.keep y.prop).at (i := 4) rfl
  have y5 : ∀ y : Cls A, y.val.cell? ⟨w.heap.size, 5, none⟩ = some (.slice q3 n3 c3) := fun y => (hB.keep y.prop).at (i := 5) rfl
  have k1 : ∀ y : Cls A, y.val.cell? ⟨kb, 1, none⟩ = some (.int .i64 node) := fun y => (kp_0 (hkA.keep y.prop)).2
  have HZ := cls_some A
  by_cases ht : t = node
  · have zt : (t != node) = false := by rw [ht]; simp
    have hn : ¬ askB ⟨k, f, t, ns, xs, es⟩ := by
      rcases HO.out with h | h
      · exact absurd ht h
      · exact h
    have HQ : ∀ y : Cls A, Calls Try.prog 25 #[.agg #[.int .i64 k, .int .i64 f, .int .i64 t, .slice q1 n1 c1, .slice q2 n2 c2, .slice q3 n3 c3]] y.val fun e w' => e = .returned (.bool false) ∧ Below y.val.heap.size y.val w' := fun y => HA.out hn y.val (ab_trans bA y.prop)
    clear ht hn
    refine wp_region_below (by kernel_rfl) (by kernel_rfl) ?_
    repeat (go_big_quiet_step (fail))
    go_big_quiet_step (first | (go_at_call 25; exact calls_below (HQ _)))
    repeat (go_big_quiet_step (fail))
    refine wpQuiet_nil ?_
    rintro _ ⟨y, rfl⟩
    obtain ⟨V4, b4⟩ := y
    dsimp only
    clear y0 y1 y2 y3 y4 y5 k1 HZ
    go_wp2_with fail
    go_ret
    exact ⟨rfl, ab_trans bA b4⟩
  · have zt : (t != node) = true := by simp [ht]
    clear ht
    refine wp_region_below (by kernel_rfl) (by kernel_rfl) ?_
    repeat (go_big_quiet_step (fail))
    refine wpQuiet_nil ?_
    rintro _ ⟨y, rfl⟩
    obtain ⟨V4, b4⟩ := y
    dsimp only
    clear y0 y1 y2 y3 y4 y5 k1 HZ
    go_wp2_with fail
    go_ret
    exact ⟨rfl, ab_trans bA b4⟩
set_option maxHeartbeats 1000000 in
theorem khandle_nil (N : Nt) (q1 q2 q3 : Option Addr) (n1 n2 n3 c1 c2 c3 : Nat) (w : World) :
    Calls Try.prog 12 #[.pointer none, ntV N (.slice q1 n1 c1) (.slice q2 n2 c2) (.slice q3 n3 c3)] w fun e w' => e = .returned (.slice none 0 0) ∧ Below w.heap.size w w' := by
  obtain ⟨k, f, t, ns, xs, es⟩ := N
  go_enter Try.func12, Try.ntmps12
  go_upto_region 1 with fail
  obtain ⟨A, hAe, hB, bA⟩ := blk1 w (ntC k f t (.slice q1 n1 c1) (.slice q2 n2 c2) (.slice q3 n3 c3)) 35
  rw [show w.alloc (.cells _ 35) = A from hAe]
  clear hAe
  have HZ := cls_some A
  refine wp_region_below (by kernel_rfl) (by kernel_rfl) ?_
  repeat (go_big_quiet_step (fail))
  refine wpQuiet_nil ?_
  rintro _ ⟨y, rfl⟩
  obtain ⟨V4, b4⟩ := y
  dsimp only
  clear HZ
  go_wp2_with fail
  go_ret
  exact ⟨rfl, ab_trans bA b4⟩
end Go.Proofs.Ytlhamckpgijjmaa
namespace Go.Proofs.Ytlhamckpgijjmaa
open Go.RowKit
set_option linter.unusedVariables false
set_option maxRecDepth 100000

set_option maxHeartbeats 4000000 in
theorem khandle_stale (kb d key : Nat) (node : Int) (os : List KD) (x : KD) (N : Nt) (vn vo ve : Value) (w : World) (hk : Blk w kb (kpC d node os) 70) (h1 : Is w vn N.ns) (h2 : SR 5 k64 w vo N.os) (h3 : SR 76 ek w ve N.es) (ht : N.t = node) (hA : askB N) (hkey : N.ns.getD 0 0 = (key : Int)) (hx : os[key]? = some x) (h100 : key < 100) (hi : Is w x.v x.l) (hl : x.l.length ≤ 1000) (h11 : skN N.k (rgK x) N.ns = 11) :
    Calls Try.prog 12 #[tptr kb, ntV N vn vo ve] w fun e w' => AnP w' w.heap.size 5 N.t N.f (N.ns.take 4 ++ nmB x.p) e ∧ Below w.heap.size w w' := by
  have HA : Hid (∀ V, Below w.heap.size w V → Calls Try.prog 25 #[ntV N vn vo ve] V fun e w' => e = .returned (.bool true) ∧ Below V.heap.size V w') := fun V hV => kasks_yes hA (h1.keep hV) (h2.keep hV) (h3.keep hV)
  have h4 : 4 ≤ N.ns.length := (good_four hA.2.1 hA.1).1
  obtain ⟨q1, c1, e1⟩ := h1.form
  obtain ⟨q2, c2, -, -, e2, -⟩ := id h2
  obtain ⟨q3, c3, -, -, e3, -⟩ := id h3
  obtain ⟨k, f, t, ns, xs, es⟩ := N
  dsimp only at e1 e2 e3 HA h4 h1 ht hkey h11 ⊢
  obtain ⟨n1, hn1⟩ : ∃ n, ns.length = n := ⟨_, rfl⟩
  rw [hn1] at e1 h4
  generalize xs.length = n2 at *
  generalize es.length = n3 at *
  subst e1
  subst e2
  subst e3
  subst ht
  clear h2 h3 hA
  obtain ⟨p, a, v, l⟩ := x
  dsimp only at hi hl h11 ⊢
  obtain ⟨q4, c4, e4⟩ := hi.form
  obtain ⟨n4, hn4⟩ : ∃ n, l.length = n := ⟨_, rfl⟩
  rw [hn4] at e4
  subst e4
  go_enter Try.func12, Try.ntmps12
  go_upto_region 1 with fail
  obtain ⟨A, hAe, hB, bA⟩ := blk1 w (ntC k f t (.slice q1 n1 c1) (.slice q2 n2 c2) (.slice q3 n3 c3)) 35
  rw [show w.alloc (.cells _ 35) = A from hAe]
  clear hAe
  have hkA := hk.keep bA
  have y0 : ∀ y : Cls A, y.val.cell? ⟨w.heap.size, 0, none⟩ = some (.int .i64 k) := fun y => (hB.keep y.prop).at (i := 0) rfl
  have y1 : ∀ y : Cls A, y.val.cell? ⟨w.heap.size, 1, none⟩ = some (.int .i64 f) := fun y => (hB.keep y.prop).at (i := 1) rfl
  have y2 : ∀ y : Cls A, y.val.cell? ⟨w.heap.size, 2, none⟩ = some (.int .i64 t) := fun y => (hB.keep y.prop).at (i := 2) rfl
  have y3 : ∀ y : Cls A, y.val.cell? ⟨w.heap.size, 3, none⟩ = some (.slice q1 n1 c1) := fun y => (hB.keep y.prop).at (i := 3) rfl
  have y4 : ∀ y : Cls A, y.val.cell? ⟨w.heap.size, 4, none⟩ = some (.slice q2 n2 c2) := fun y => (hB.keep y.prop).at (i := 4) rfl
  have y5 : ∀ y : Cls A, y.val.cell? ⟨w.heap.size, 5, none⟩ = some (.slice q3 n3 c3) := fun y => (hB.keep y.prop).at (i := 5) rfl
  have k1 : ∀ y : Cls A, y.val.cell? ⟨kb, 1, none⟩ = some (.int .i64 t) := fun y => (kp_0 (hkA.keep y.prop)).2
  have HZ := cls_some A
  have zt : (t != t) = false := by simp
  have HQ : ∀ y : Cls A, Calls Try.prog 25 #[.agg #[.int .i64 k, .int .i64 f, .int .i64 t, .slice q1 n1 c1, .slice q2 n2 c2, .slice q3 n3 c3]] y.val fun e w' => e = .returned (.bool true) ∧ Below y.val.heap.size y.val w' := fun y => HA.out y.val (ab_trans bA y.prop)
  refine wp_region_below (by kernel_rfl) (by kernel_rfl) ?_
  repeat (go_big_quiet_step (fail))
  go_big_quiet_step (first | (go_at_call 25; exact calls_below (HQ _)))
  repeat (go_big_quiet_step (fail))
  refine wpQuiet_nil ?_
  rintro _ ⟨y, rfl⟩
  obtain ⟨V, b4⟩ := y
  dsimp only
  clear y0 y1 y2 y3 y4 y5 k1 HZ HQ HA zt
  have bV := ab_trans bA b4
  have hBV := hB.keep b4
  have hkV := hkA.keep b4
  have inV := h1.keep bV
  have irV := hi.keep bV
  obtain ⟨g0, o0, hq0, hg0, row0⟩ := inV.at (by omega)
  obtain ⟨x0, hx0⟩ : ∃ x, ns[0]? = some x := ⟨ns[0]'(by omega), List.getElem?_eq_getElem _⟩
  have hd0 : x0 = (key : Int) := by rw [← hkey, List.getD_eq_getElem?_getD, hx0]; rfl
  have m0 := row0 0 x0 hx0
  rw [Nat.add_zero, hd0] at m0
  have hl1 := inV.len
  have hc1 := hl1.2.1
  have hc2 := hl1.2.2
  subst hq0
  have h0i : (0 : Int) < (n1 : Int) := by omega
  have h0n : 0 < n1 := by omega
  have ki : (key : Int) < 100 := by omega
  have d3 := hBV.at (i := 3) rfl
  have C : ∀ i u, i < 7 → (encK ⟨p, a, .slice q4 n4 c4, l⟩)[i]? = some u → V.cell? ⟨kb, 2 + key * 7 + i, none⟩ = some u := fun i u hi hu => kp_at hkV hx hi hu
  have x0' : V.cell? ⟨kb, 2 + key * 7, none⟩ = some (.int .i64 p.n) := C 0 _ (by omega) rfl
  have x1 : V.cell? ⟨kb, 2 + key * 7 + 1, none⟩ = some (.int .i64 p.nd) := C 1 _ (by omega) rfl
  have x2 : V.cell? ⟨kb, 2 + key * 7 + 2, none⟩ = some (.int .i64 p.lf) := C 2 _ (by omega) rfl
  have x3 : V.cell? ⟨kb, 2 + key * 7 + 3, none⟩ = some (.int .i64 a.n) := C 3 _ (by omega) rfl
  have x4 : V.cell? ⟨kb, 2 + key * 7 + 4, none⟩ = some (.int .i64 a.nd) := C 4 _ (by omega) rfl
  have x5 : V.cell? ⟨kb, 2 + key * 7 + 5, none⟩ = some (.int .i64 a.lf) := C 5 _ (by omega) rfl
  have x6 : V.cell? ⟨kb, 2 + key * 7 + 6, none⟩ = some (.slice q4 n4 c4) := C 6 _ (by omega) rfl
  clear C hl1 hd0 row0 hx0
  go_upto_region 5 with fail
  obtain ⟨V1, hVe, hR, bV1⟩ := blk1 V (rC p a (.slice q4 n4 c4)) 40
  rw [show V.alloc (.cells _ 40) = V1 from hVe]
  clear hVe x0' x1 x2 x3 x4 x5 x6 d3 m0
  have bW1 := ab_trans bV bV1
  have hN1 := hBV.keep bV1
  have t0 := hR.at (i := 0) rfl
  have t1 := hR.at (i := 1) rfl
  have t2 := hR.at (i := 2) rfl
  have t3 := hR.at (i := 3) rfl
  have t4 := hR.at (i := 4) rfl
  have t5 := hR.at (i := 5) rfl
  have t6 := hR.at (i := 6) rfl
  have s0 := hN1.at (i := 0) rfl
  have s1 := hN1.at (i := 1) rfl
  have s2 := hN1.at (i := 2) rfl
  have s3 := hN1.at (i := 3) rfl
  have s4 := hN1.at (i := 4) rfl
  have s5 := hN1.at (i := 5) rfl
  go_wp2_with fail
  refine (kasked_any ⟨p, a, l⟩ (.slice q4 n4 c4) k f t (.slice (some ⟨g0, o0, none⟩) n1 c1) (.slice q2 n2 c2) (.slice q3 n3 c3) ns V1 (irV.keep bV1) (inV.keep bV1) (by rw [hn1]; exact h4) ⟨_, _, _, rfl⟩ ⟨_, _, _, rfl⟩).mono ?_
  rintro e W2 ⟨⟨q5, n5, c5, rfl, O5, hn5⟩, b2⟩
  rw [show skN k ⟨p, a, l⟩ ns = 11 from h11, show errV 11 = Err 11 from rfl]
  clear t0 t1 t2 t3 t4 t5 t6 s0 s1 s2 s3 s4 s5
  go_upto_region 6 with fail
  obtain ⟨V2, hVe, hR2, bV2⟩ := blk1 W2 (rC (skR k ⟨p, a, l⟩ ns).p (skR k ⟨p, a, l⟩ ns).a (.slice q5 n5 c5)) 40
  rw [show W2.alloc (.cells _ 40) = V2 from hVe]
  clear hVe
  have b12 := ab_trans b2 bV2
  have hNV := hN1.keep b12
  have hRV := hR.keep b12
  have inW := (inV.keep bV1).keep b12
  have bW2 := ab_trans bW1 b12
  go_wp2_with fail
  refine (eis_same V2).mono ?_
  rintro e V2 ⟨rfl, rfl⟩
  go_upto_region 7 with fail
  refine region_L 4 (S := fun w' => Below V2.heap.size V2 w') (by kernel_rfl) ((Below.refl _ _).drew) (fun hHeld => ?_)
  have hdr : Below V2.heap.size V2 V2.drew := hHeld
  generalize V2.drew = V3 at *
  refine takeL (i := 0) [4] (some 44) (by rfl) rfl rfl (by kernel_rfl) (by kernel_rfl) (by kernel_rfl) (by kernel_rfl) (fun _ _ _ h => h) (by rfl) (fun w hSw => by (try dsimp only at hSw); (have hh := hNV.keep hSw; have t0 := hh.at (i := 0) rfl; have t1 := hh.at (i := 1) rfl; have t2 := hh.at (i := 2) rfl; have t3 := hh.at (i := 3) rfl; have t4 := hh.at (i := 4) rfl; have t5 := hh.at (i := 5) rfl; go_simp; try rfl)) hHeld ?_
  go_frame
  refine takeP (i := 1) (some 45) (by rfl) rfl rfl (by kernel_rfl) (by kernel_rfl) (by kernel_rfl) (fun _ _ _ h => h) (by rfl) (fun w => by go_simp; try rfl) hHeld ?_
  go_frame
  refine takeL (i := 2) [3, 4] (some 46) (by rfl) rfl rfl (by kernel_rfl) (by kernel_rfl) (by kernel_rfl) (by kernel_rfl) (fun _ _ _ h => h) (by rfl) (fun w hSw => by (try dsimp only at hSw); (have hh := hRV.keep hSw; have t0 := hh.at (i := 0) rfl; have t1 := hh.at (i := 1) rfl; have t2 := hh.at (i := 2) rfl; go_simp; try rfl)) hHeld ?_
  go_frame
  refine anyL_ready (rs := [3]) (by kernel_rfl) (by simp) (AllL.cons rfl (fun K hK => ?_) AllL.nil)
  go_simp
  refine (knums_any p V3).mono ?_
  rintro e W4 ⟨v4, rfl, O4, b4'⟩
  show K _ _
  have hb4 := ab_trans hdr b4'
  refine hK.out _ _ hb4 (fun hHeld => ?_)
  clear hK K
  try go_frame
  refine anyL_ready (rs := [4]) (by kernel_rfl) (by simp) (AllL.last rfl (by kernel_rfl) (fun K hK => ?_))
  go_simp
  refine (kanswer_any k f t 5 (.slice (some ⟨g0, o0, none⟩) n1 c1) (.slice q2 n2 c2) (.slice q3 n3 c3) v4 ns (nmB p) W4 (inW.keep hb4) (by rw [hn1]; exact h4) O4.is (by show 3 ≤ 1000; omega)).mono ?_
  rintro e W5 ⟨⟨g5, q6, n6, c6, rfl, hg5, hB5, O6, hn6⟩, b5⟩
  show K _ _
  refine hK.out _ _ ?_
  clear hK K
  try go_frame
  refine anyL_ready (rs := [5]) (by kernel_rfl) (by simp) (AllL.free rfl (by kernel_rfl) (fun K hK => ?_))
  go_simp
  refine hK.out _ _ ?_
  clear hK K
  refine anyL_done (by kernel_rfl) ?_
  go_wp2_with fail
  go_ret
  have bW4 := ab_trans bW2 hb4
  exact ⟨⟨g5, q6, n6, c6, rfl, Nat.le_trans bW4.size hg5, hB5, O6.less bW4.size, hn6⟩, ab_trans bW4 b5⟩
end Go.Proofs.Ytlhamckpgijjmaa
namespace Go.Proofs.Ytlhamckpgijjmaa
open Go.RowKit
set_option linter.unusedVariables false
set_option maxRecDepth 100000

theorem ne2n (w : World) : (binOp .neq 28 (Err 2) .nilIface).run Try.prog w = .ok (.bool true) w := by kernel_rfl
set_option maxHeartbeats 4000000 in
theorem khandle_form (kb d key : Nat) (node : Int) (os : List KD) (x : KD) (N : Nt) (vn vo ve : Value) (w : World) (hk : Blk w kb (kpC d node os) 70) (h1 : Is w vn N.ns) (h2 : SR 5 k64 w vo N.os) (h3 : SR 76 ek w ve N.es) (ht : N.t = node) (hA : askB N) (hkey : N.ns.getD 0 0 = (key : Int)) (hx : os[key]? = some x) (h100 : key < 100) (hi : Is w x.v x.l) (hl : x.l.length ≤ 1000) (h11 : skN N.k (rgK x) N.ns = 2) :
    Calls Try.prog 12 #[tptr kb, ntV N vn vo ve] w fun e w' => e = .returned (.slice none 0 0) ∧ Below w.heap.size w w' := by
  have HA : Hid (∀ V, Below w.heap.size w V → Calls Try.prog 25 #[ntV N vn vo ve] V fun e w' => e = .returned (.bool true) ∧ Below V.heap.size V w') := fun V hV => kasks_yes hA (h1.keep hV) (h2.keep hV) (h3.keep hV)
  have h4 : 4 ≤ N.ns.length := (good_four hA.2.1 hA.1).1
  obtain ⟨q1, c1, e1⟩ := h1.form
  obtain ⟨q2, c2, -, -, e2, -⟩ := id h2
  obtain ⟨q3, c3, -, -, e3, -⟩ := id h3
  obtain ⟨k, f, t, ns, xs, es⟩ := N
  dsimp only at e1 e2 e3 HA h4 h1 ht hkey h11 ⊢
  obtain ⟨n1, hn1⟩ : ∃ n, ns.length = n := ⟨_, rfl⟩
  rw [hn1] at e1 h4
  generalize xs.length = n2 at *
  generalize es.length = n3 at *
  subst e1
  subst e2
  subst e3
  subst ht
  clear h2 h3 hA
  obtain ⟨p, a, v, l⟩ := x
  dsimp only at hi hl h11 ⊢
  obtain ⟨q4, c4, e4⟩ := hi.form
  obtain ⟨n4, hn4⟩ : ∃ n, l.length = n := ⟨_, rfl⟩
  rw [hn4] at e4
  subst e4
  go_enter Try.func12, Try.ntmps12
  go_upto_region 1 with fail
  obtain ⟨A, hAe, hB, bA⟩ := blk1 w (ntC k f t (.slice q1 n1 c1) (.slice q2 n2 c2) (.slice q3 n3 c3)) 35
  rw [show w.alloc (.cells _ 35) = A from hAe]
  clear hAe
  have hkA := hk.keep bA
  have y0 : ∀ y : Cls A, y.val.cell? ⟨w.heap.size, 0, none⟩ = some (.int .i64 k) := fun y => (hB.keep y.prop).at (i := 0) rfl
  have y1 : ∀ y : Cls A, y.val.cell? ⟨w.heap.size, 1, none⟩ = some (.int .i64 f) := fun y => (hB.keep y.prop).at (i := 1) rfl
  have y2 : ∀ y : Cls A, y.val.cell? ⟨w.heap.size, 2, none⟩ = some (.int .i64 t) := fun y => (hB.keep y.prop).at (i := 2) rfl
  have y3 : ∀ y : Cls A, y.val.cell? ⟨w.heap.size, 3, none⟩ = some (.slice q1 n1 c1) := fun y => (hB.keep y.prop).at (i := 3) rfl
  have y4 : ∀ y : Cls A, y.val.cell? ⟨w.heap.size, 4, none⟩ = some (.slice q2 n2 c2) := fun y => (hB.keep y.prop).at (i := 4) rfl
  have y5 : ∀ y : Cls A, y.val.cell? ⟨w.heap.size, 5, none⟩ = some (.slice q3 n3 c3) := fun y => (hB.keep y.prop).at (i := 5) rfl
  have k1 : ∀ y : Cls A, y.val.cell? ⟨kb, 1, none⟩ = some (.int .i64 t) := fun y => (kp_0 (hkA.keep y.prop)).2
  have HZ := cls_some A
  have zt : (t != t) = false := by simp
  have HQ : ∀ y : Cls A, Calls Try.prog 25 #[.agg #[.int .i64 k, .int .i64 f, .int .i64 t, .slice q1 n1 c1, .slice q2 n2 c2, .slice q3 n3 c3]] y.val fun e w' => e = .returned (.bool true) ∧ Below y.val.heap.size y.val w' := fun y => HA.out y.val (ab_trans bA y.prop)
  refine wp_region_below (by kernel_rfl) (by kernel_rfl) ?_
  repeat (go_big_quiet_step (fail))
  go_big_quiet_step (first | (go_at_call 25; exact calls_below (HQ _)))
  repeat (go_big_quiet_step (fail))
  refine wpQuiet_nil ?_
  rintro _ ⟨y, rfl⟩
  obtain ⟨V, b4⟩ := y
  dsimp only
  clear y0 y1 y2 y3 y4 y5 k1 HZ HQ HA zt
  have bV := ab_trans bA b4
  have hBV := hB.keep b4
  have hkV := hkA.keep b4
  have inV := h1.keep bV
  have irV := hi.keep bV
  obtain ⟨g0, o0, hq0, hg0, row0⟩ := inV.at (by omega)
  obtain ⟨x0, hx0⟩ : ∃ x, ns[0]? = some x := ⟨ns[0]'(by omega), List.getElem?_eq_getElem _⟩
  have hd0 : x0 = (key : Int) := by rw [← hkey, List.getD_eq_getElem?_getD, hx0]; rfl
  have m0 := row0 0 x0 hx0
  rw [Nat.add_zero, hd0] at m0
  have hl1 := inV.len
  have hc1 := hl1.2.1
  have hc2 := hl1.2.2
  subst hq0
  have h0i : (0 : Int) < (n1 : Int) := by omega
  have h0n : 0 < n1 := by omega
  have ki : (key : Int) < 100 := by omega
  have d3 := hBV.at (i := 3) rfl
  have C : ∀ i u, i < 7 → (encK ⟨p, a, .slice q4 n4 c4, l⟩)[i]? = some u → V.cell? ⟨kb, 2 + key * 7 + i, none⟩ = some u := fun i u hi hu => kp_at hkV hx hi hu
  have x0' : V.cell? ⟨kb, 2 + key * 7, none⟩ = some (.int .i64 p.n) := C 0 _ (by omega) rfl
  have x1 : V.cell? ⟨kb, 2 + key * 7 + 1, none⟩ = some (.int .i64 p.nd) := C 1 _ (by omega) rfl
  have x2 : V.cell? ⟨kb, 2 + key * 7 + 2, none⟩ = some (.int .i64 p.lf) := C 2 _ (by omega) rfl
  have x3 : V.cell? ⟨kb, 2 + key * 7 + 3, none⟩ = some (.int .i64 a.n) := C 3 _ (by omega) rfl
  have x4 : V.cell? ⟨kb, 2 + key * 7 + 4, none⟩ = some (.int .i64 a.nd) := C 4 _ (by omega) rfl
  have x5 : V.cell? ⟨kb, 2 + key * 7 + 5, none⟩ = some (.int .i64 a.lf) := C 5 _ (by omega) rfl
  have x6 : V.cell? ⟨kb, 2 + key * 7 + 6, none⟩ = some (.slice q4 n4 c4) := C 6 _ (by omega) rfl
  clear C hl1 hd0 row0 hx0
  go_upto_region 5 with fail
  obtain ⟨V1, hVe, hR, bV1⟩ := blk1 V (rC p a (.slice q4 n4 c4)) 40
  rw [show V.alloc (.cells _ 40) = V1 from hVe]
  clear hVe x0' x1 x2 x3 x4 x5 x6 d3 m0
  have bW1 := ab_trans bV bV1
  have hN1 := hBV.keep bV1
  have t0 := hR.at (i := 0) rfl
  have t1 := hR.at (i := 1) rfl
  have t2 := hR.at (i := 2) rfl
  have t3 := hR.at (i := 3) rfl
  have t4 := hR.at (i := 4) rfl
  have t5 := hR.at (i := 5) rfl
  have t6 := hR.at (i := 6) rfl
  have s0 := hN1.at (i := 0) rfl
  have s1 := hN1.at (i := 1) rfl
  have s2 := hN1.at (i := 2) rfl
  have s3 := hN1.at (i := 3) rfl
  have s4 := hN1.at (i := 4) rfl
  have s5 := hN1.at (i := 5) rfl
  go_wp2_with fail
  refine (kasked_any ⟨p, a, l⟩ (.slice q4 n4 c4) k f t (.slice (some ⟨g0, o0, none⟩) n1 c1) (.slice q2 n2 c2) (.slice q3 n3 c3) ns V1 (irV.keep bV1) (inV.keep bV1) (by rw [hn1]; exact h4) ⟨_, _, _, rfl⟩ ⟨_, _, _, rfl⟩).mono ?_
  rintro e W2 ⟨⟨q5, n5, c5, rfl, O5, hn5⟩, b2⟩
  rw [show skN k ⟨p, a, l⟩ ns = 2 from h11, show errV 2 = Err 2 from rfl]
  clear t0 t1 t2 t3 t4 t5 t6 s0 s1 s2 s3 s4 s5
  go_upto_region 6 with fail
  obtain ⟨V2, hVe, hR2, bV2⟩ := blk1 W2 (rC (skR k ⟨p, a, l⟩ ns).p (skR k ⟨p, a, l⟩ ns).a (.slice q5 n5 c5)) 40
  rw [show W2.alloc (.cells _ 40) = V2 from hVe]
  clear hVe
  have b12 := ab_trans b2 bV2
  have hNV := hN1.keep b12
  have hRV := hR.keep b12
  have inW := (inV.keep bV1).keep b12
  have bW2 := ab_trans bW1 b12
  go_wp2_with fail
  refine (eis_form V2).mono ?_
  rintro e V2 ⟨rfl, rfl⟩
  have E1 := ne2n
  go_wp2_with fail
  go_ret
  exact ⟨rfl, bW2⟩
end Go.Proofs.Ytlhamckpgijjmaa
namespace Go.Proofs.Ytlhamckpgijjmaa
open Go.RowKit
set_option linter.unusedVariables false
set_option maxRecDepth 100000

theorem Kp.keep {W W' : World} {base b : Nat} {v : Value} {d kb : Nat} {S : TS} {nr nb : Nat} {node : Int} {os : List KD} (h : Kp W base b v d kb S nr nb node os) (hb : Below W.heap.size W W') : Kp W' base b v d kb S nr nb node os :=
  ⟨h.tp.keep hb, h.dy.keep hb, h.kp.keep hb, h.len, fun r hr => (h.im r hr).keep hb, h.gd, h.gk⟩
/-- Numbers that stay while keepers are at work: of one's own, or older than all that is. -/
def Ik (W : World) (base : Nat) (v : Value) (l : List Int) : Prop := Io W base v l ∨ ∃ W0 : World, W0.heap.size ≤ base ∧ Below W0.heap.size W0 W ∧ Is W0 v l
theorem Ik.is {W : World} {base : Nat} {v : Value} {l : List Int} (h : Ik W base v l) : Is W v l := by
  rcases h with h | ⟨W0, h1, h2, h3⟩
  · exact h.is
  · exact h3.keep h2
theorem Ik.keep {W W' : World} {base : Nat} {v : Value} {l : List Int} (h : Ik W base v l) (hb : Below W.heap.size W W') : Ik W' base v l := by
  rcases h with h | ⟨W0, h1, h2, h3⟩
  · exact .inl (h.keep hb)
  · exact .inr ⟨W0, h1, ab_trans h2 hb, h3⟩
theorem Kp.ages {W : World} {base b : Nat} {v : Value} {d kb : Nat} {S : TS} {nr nb : Nat} {node : Int} {os : List KD} (h : Kp W base b v d kb S nr nb node os) : base ≤ b ∧ base ≤ d ∧ base ≤ kb ∧ b < W.heap.size ∧ d < W.heap.size ∧ kb < W.heap.size ∧ ∀ k, v.ownBlock = some k → base ≤ k ∧ k < W.heap.size :=
  ⟨h.tp.ge, h.gd, h.gk, h.tp.blk.lt, h.dy.lt, h.kp.lt, fun k hk => h.tp.own.lt k hk⟩
theorem Km.below' {W W' : World} {base b : Nat} {v v' : Value} {d kb : Nat} {S : TS} {nr nb : Nat} {node : Int} {os : List KD} (m : Km b d kb W W' v v') (h : Kp W base b v d kb S nr nb node os) : Below base W W' := by
  obtain ⟨h1, h2, h3, h4, -, -, h7⟩ := h.ages
  exact ⟨m.os, m.tape, m.output, m.size, fun i hi => m.other i (by omega) (by omega) (by omega) (by omega) (fun e => by have := (h7 i e).1; omega)⟩
/-- What is younger than a keeper, and what is of other kinds, stays. -/
theorem Blk.km {W W' : World} {base b g : Nat} {v v' : Value} {d kb : Nat} {S : TS} {nr nb : Nat} {node : Int} {os : List KD} {xs : Array Value} {t : TypeId} (h : Blk W g xs t) (m : Km b d kb W W' v v') (hK : Kp W base b v d kb S nr nb node os) (h1 : t ≠ 63) (h2 : t ≠ 103) (h3 : t ≠ 70) (h4 : t ≠ 5) : Blk W' g xs t := by
  unfold Blk at *
  rw [m.other g (Blk.lt h) (blk_ne h hK.tp.blk h1) (blk_ne h hK.dy h2) (blk_ne h hK.kp h3) (blk_own hK.tp.own h h4)]
  exact h
theorem Ik.km {W W' : World} {base b : Nat} {v v' x : Value} {l : List Int} {d kb : Nat} {S : TS} {nr nb : Nat} {node : Int} {os : List KD} (h : Ik W base x l) (m : Km b d kb W W' v v') (hK : Kp W base b v d kb S nr nb node os) : Ik W' base x l := by
  rcases h with h | ⟨W0, h1, h2, h3⟩
  · refine .inl (own_at h fun g hg => m.other g (h.lt g hg).2 (fun e => ?_) (fun e => ?_) (fun e => ?_) (fun e => ?_))
    · exact blk_own h hK.tp.blk (by decide) (by rw [← e]; exact hg)
    · exact blk_own h hK.dy (by decide) (by rw [← e]; exact hg)
    · exact blk_own h hK.kp (by decide) (by rw [← e]; exact hg)
    · exact sep_ty h hK.tp.own (by decide) g hg e
  · exact .inr ⟨W0, h1, h2.trans ((m.below' hK).mono h1), h3⟩
theorem rowB_byt (k : Int) (r : Rg) : Byt (rowB k r) := by
  unfold rowB
  rw [List.nil_append]
  intro x hx
  rcases List.mem_append.1 hx with h | h
  · exact numsB_byt [k] x h
  · exact numsB_byt _ x h
theorem rowB_len (k : Int) (r : Rg) (h : r.l.length ≤ 1000) : (rowB k r).length ≤ 16376 := by
  unfold rowB
  have h1 := numsB_len [k]
  have h2 := numsB_len (nmR r)
  have h3 : (nmR r).length = 6 + r.l.length := by unfold nmR nmB; simp only [List.length_append, List.length_cons, List.length_nil]
  simp only [List.nil_append, List.length_append, List.length_cons, List.length_nil] at *
  omega
end Go.Proofs.Ytlhamckpgijjmaa
