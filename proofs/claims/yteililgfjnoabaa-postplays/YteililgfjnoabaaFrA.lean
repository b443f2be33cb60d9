/-
  frame's small functions: turn, unturn, read, spell, Sum; bytes.Clone.
-/
import Derived.Test.YteililgfjnoabaaFrM
import Derived.Laws.BitsAllLaws
namespace Go.Proofs.Yteililgfjnoabaa
open Go.RowKit
set_option linter.unusedVariables false

theorem i64_xor0 (x : Int) (h0 : -9223372036854775808 ≤ x) (h1 : x ≤ 9223372036854775807) : bits .xor .i64 x 0 = x := by
  show IntKind.i64.wrap ((BitVec.ofInt 64 x ^^^ BitVec.ofInt 64 0).toNat : Int) = _
  rw [show BitVec.ofInt 64 0 = 0#64 from by decide, BitVec.xor_zero, BitVec.toNat_ofInt]
  simp [IntKind.wrap, IntKind.bits, IntKind.signed]
  omega
theorem i64_xor1 (x : Int) (h0 : -9223372036854775808 ≤ x) (h1 : x ≤ 9223372036854775807) : bits .xor .i64 x (-1) = -1 - x := by
  show IntKind.i64.wrap ((BitVec.ofInt 64 x ^^^ BitVec.ofInt 64 (-1)).toNat : Int) = _
  rw [show BitVec.ofInt 64 (-1) = BitVec.allOnes 64 from by decide, BitVec.xor_allOnes, BitVec.toNat_not, BitVec.toNat_ofInt]
  simp [IntKind.wrap, IntKind.bits, IntKind.signed]
  omega
theorem turned (n : Int) (h0 : -9223372036854775808 ≤ n) (h1 : n ≤ 9223372036854775807) : IntKind.u64.wrap (bits .xor .i64 (wrap64 (n * 2)) (n / 9223372036854775808)) = ((zig n : Nat) : Int) := by
  have hw : -9223372036854775808 ≤ wrap64 (n * 2) ∧ wrap64 (n * 2) ≤ 9223372036854775807 := by unfold wrap64; omega
  unfold zig
  by_cases c : n < 0
  · have e : n / 9223372036854775808 = -1 := by omega
    rw [e, i64_xor1 _ hw.1 hw.2, if_pos c, IntKind.wrap_u64]
    unfold wrap64; omega
  · have e : n / 9223372036854775808 = 0 := by omega
    rw [e, i64_xor0 _ hw.1 hw.2, if_neg c, IntKind.wrap_u64]
    unfold wrap64; omega
theorem unturned (u : Nat) (h : u < 18446744073709551616) : bits .xor .i64 ((u : Int) / 2) (wrap64 (-wrap64 (bits .and .u64 (u : Int) 1))) = unz u := by
  have e : bits .and .u64 (u : Int) 1 = ((u % 2 : Nat) : Int) := by
    rw [← nat_mask1]
    exact u64_and_nat u 1 h (by omega)
  rw [e]
  unfold unz
  rcases Nat.mod_two_eq_zero_or_one u with c | c
  · rw [c, if_neg (by omega), show wrap64 (-wrap64 ((0 : Nat) : Int)) = 0 from by unfold wrap64; omega, i64_xor0 _ (by omega) (by omega)]
    omega
  · rw [c, if_pos rfl, show wrap64 (-wrap64 ((1 : Nat) : Int)) = -1 from by unfold wrap64; omega, i64_xor1 _ (by omega) (by omega)]
    omega
theorem read_step (l : List Nat) (k x : Nat) (hk : k < 8) (hb : Byt l) (hx : l[k]? = some x) : bits .or .u64 ((val (l.take k) : Nat) : Int) (IntKind.u64.wrap (((x : Nat) : Int) * 2 ^ (8 * k))) = ((val (l.take (k + 1)) : Nat) : Int) := by
  have hxb := hb.at hx
  have hkl : k < l.length := (List.getElem?_eq_some_iff.1 hx).1
  have hlen : (l.take k).length = k := by rw [List.length_take]; omega
  have hv := val_lt (l.take k) (hb.take k)
  rw [hlen, show (256 : Nat) = 2 ^ 8 from rfl, ← Nat.pow_mul] at hv
  have h56 : 2 ^ (8 * k) ≤ 2 ^ 56 := Nat.pow_le_pow_right (by decide) (by omega)
  have e1 : (((x : Nat) : Int) * 2 ^ (8 * k)) = ((x * 2 ^ (8 * k) : Nat) : Int) := by rw [Int.natCast_mul, Int.natCast_pow]; rfl
  have hlt : x * 2 ^ (8 * k) < 18446744073709551616 := by
    have : x * 2 ^ (8 * k) ≤ 255 * 2 ^ 56 := Nat.mul_le_mul (by omega) h56
    omega
  rw [e1, IntKind.wrap_u64, Int.emod_eq_of_lt (by omega) (by omega), u64_or_nat _ _ (by omega) hlt, Nat.or_comm, nat_join (8 * k) _ _ (Nat.mul_mod_left ..) hv]
  congr 1
  rw [List.take_add_one, hx, Option.toList_some, val_snoc, hlen, show (256 : Nat) = 2 ^ 8 from rfl, ← Nat.pow_mul]
  omega
section
variable {ops : Array Oper} {rest : List Oper} {o : Oper} {a : Act} {w : World} {Q : Exit → Act → World → Prop}
/-- A slice of bytes, just made. -/
theorem own_newB (w : World) (xs : List Nat) (n : Nat) (hn : xs.length = n) (hm : n ≤ maxLen) (base : Nat) (hb : base ≤ w.heap.size) : (w.alloc (.cells (bys xs).toArray 5)).ownsRow base 5 1 (.slice (some ⟨w.heap.size, 0, none⟩) n n) n (bys xs) := by
  refine ⟨by rw [bys_len, hn, Nat.mul_one], .inr ⟨w.heap.size, n, (bys xs).toArray, rfl, hb, ?_, Nat.le_refl _, hm, ?_, ?_⟩⟩
  · show (w.heap.push _)[w.heap.size]? = _; simp
  · simp [bys_len, hn]
  · rw [Nat.mul_one, ← hn, ← bys_len xs]; simp
theorem bsb0 (w : World) : (Instr.buildSlice 34 0 #[]).run Try.prog w = .ok (.slice (some ⟨w.heap.size, 0, none⟩) 0 0) (w.alloc (.cells (bys []).toArray 5)) := by kernel_rfl
theorem bsb1 (a : Nat) (w : World) : (Instr.buildSlice 34 1 #[(0, .int .u8 ((a : Nat) : Int))]).run Try.prog w = .ok (.slice (some ⟨w.heap.size, 0, none⟩) 1 1) (w.alloc (.cells (bys [a]).toArray 5)) := by kernel_rfl
theorem bsb2 (a b : Nat) (w : World) : (Instr.buildSlice 34 2 #[(0, .int .u8 ((a : Nat) : Int)), (1, .int .u8 ((b : Nat) : Int))]).run Try.prog w = .ok (.slice (some ⟨w.heap.size, 0, none⟩) 2 2) (w.alloc (.cells (bys [a, b]).toArray 5)) := by kernel_rfl
theorem bsb4 (a b c d : Nat) (w : World) : (Instr.buildSlice 34 4 #[(0, .int .u8 ((a : Nat) : Int)), (1, .int .u8 ((b : Nat) : Int)), (2, .int .u8 ((c : Nat) : Int)), (3, .int .u8 ((d : Nat) : Int))]).run Try.prog w = .ok (.slice (some ⟨w.heap.size, 0, none⟩) 4 4) (w.alloc (.cells (bys [a, b, c, d]).toArray 5)) := by kernel_rfl
theorem bs_byW {K : Act → World → Prop} (d : Option Tmp) (hd : o.dst = d) {n : Nat} {parts : Array (Nat × Operand)} (ho : o.op = .buildSlice 34 n parts) (xs : List Nat) {vs : Array (Nat × Value)} (hl : parts.map (fun (i, x) => (i, a.eval x)) = vs)
    (hrun : (Instr.buildSlice 34 n vs).run Try.prog w = .ok (.slice (some ⟨w.heap.size, 0, none⟩) n n) (w.alloc (.cells (bys xs).toArray 5))) (hn : xs.length = n) (hm : n ≤ maxLen)
    (h : ∀ W', W'.ownsRow w.heap.size 5 1 (.slice (some ⟨w.heap.size, 0, none⟩) n n) n (bys xs) → Below w.heap.size w W' → W'.heap.size = w.heap.size + 1 → K (a.put d (.slice (some ⟨w.heap.size, 0, none⟩) n n)) W') : o.wp Try.prog a w K Q := by
  subst hd
  unfold Oper.wp execOp
  simp only [ho, Sem.run_bind, hl, hrun, Result.andThen_ok]
  exact h _ (own_newB w xs n hn hm _ (Nat.le_refl _)) ((Below.refl _ _).alloc (Nat.le_refl _) _) (by simp)
theorem bs_by (hw : Region.wanted o (yielded ops a.tmps) = true) {n : Nat} {parts : Array (Nat × Operand)} (ho : o.op = .buildSlice 34 n parts) (xs : List Nat) {vs : Array (Nat × Value)} (hl : parts.map (fun (i, x) => (i, a.eval x)) = vs)
    (hrun : (Instr.buildSlice 34 n vs).run Try.prog w = .ok (.slice (some ⟨w.heap.size, 0, none⟩) n n) (w.alloc (.cells (bys xs).toArray 5))) (hn : xs.length = n) (hm : n ≤ maxLen)
    (h : ∀ W', W'.ownsRow w.heap.size 5 1 (.slice (some ⟨w.heap.size, 0, none⟩) n n) n (bys xs) → Below w.heap.size w W' → W'.heap.size = w.heap.size + 1 → wpList Try.prog ops Q rest (a.put o.dst (.slice (some ⟨w.heap.size, 0, none⟩) n n)) W') : wpList Try.prog ops Q (o :: rest) a w := by
  unfold wpList
  rw [if_pos hw]
  left
  exact bs_byW o.dst rfl ho xs hl hrun hn hm h
/-- append of bytes onto an own slice: its run. -/
theorem app_run (A : World) (ty : TypeId) {v vx : Value} {n k : Nat} {l m : List Nat} (hown : w.ownsRow A.heap.size 5 1 v n (bys l)) (hsl : Sl w vx m) (hm : m.length = k) (h63 : n + k ≤ 140737488355328) (hA : Below A.heap.size A w) :
    ∃ v' w', (Builtin.append_ #[34, 34] ty #[v, vx]).run Try.prog w = .ok v' w' ∧ w'.ownsRow A.heap.size 5 1 v' (n + k) (bys (l ++ m)) ∧ (v' = .slice none 0 0 ↔ v = .slice none 0 0 ∧ k = 0) ∧ Below A.heap.size A w' ∧ w.grownBy w' v.ownBlock ∧ (v'.ownBlock = v.ownBlock ∨ v'.ownBlock = some w.heap.size) := by
  obtain ⟨i, hi, hz0, hz1, hz2⟩ := info_parts infoByte
  subst hm
  obtain ⟨q, cap, rfl, hq, hsrc⟩ := hsl.src
  cases q with
  | none =>
    have h0 := hq rfl
    have hm0 : m = [] := List.eq_nil_of_length_eq_zero h0
    subst hm0
    exact ⟨v, w, append_none (P := Try.prog) w A.heap.size 34 ty 5 i 1 cap Try.underlying34 hi v n (bys l) hown, by simpa using hown, by simp, hA, ⟨rfl, rfl, rfl, Nat.le_refl _, fun _ _ _ => rfl⟩, .inl rfl⟩
  | some ad =>
    obtain ⟨v', w', hr, h2, h3, h4, h5⟩ := run_append_own_at (P := Try.prog) w A.heap.size 34 ty 5 i _ 1 1 Try.underlying34 hi hz0 hz1 hz2 rfl (by omega) v n (bys l) hown ad m.length cap (bys m) (by rw [bys_len, Nat.mul_one]) (hsrc ad rfl) (bys_one m) (by unfold maxLen; omega) (by omega) hA.size
    refine ⟨v', w', hr, by rw [← bys_append]; exact h2, h4, ?_, h3, h5⟩
    refine hA.grown h3 hA.size (fun r hr => ?_)
    rcases hown.2 with ⟨rfl, _⟩ | ⟨g', cap', cur', rfl, hbg, _⟩
    · cases hr
    · cases hr; exact hbg
theorem app_byW {K : Act → World → Prop} (A : World) (d : Option Tmp) (hd : o.dst = d) {s x : Operand} (ho : o.op = .call { callee := .builtin .append, args := #[s, x], argTypes := #[34, 34] })
    {v vx : Value} {n k : Nat} {l m : List Nat} (hs : a.eval s = v) (hown : w.ownsRow A.heap.size 5 1 v n (bys l)) (hx : a.eval x = vx) (hsl : Sl w vx m) (hm : m.length = k) (h63 : n + k ≤ 140737488355328) (hA : Below A.heap.size A w)
    (h : ∀ v' w', w'.ownsRow A.heap.size 5 1 v' (n + k) (bys (l ++ m)) → (v' = .slice none 0 0 ↔ v = .slice none 0 0 ∧ k = 0) → Below A.heap.size A w' → w.grownBy w' v.ownBlock → (v'.ownBlock = v.ownBlock ∨ v'.ownBlock = some w.heap.size) → K (a.put d v') w') : o.wp Try.prog a w K Q := by
  subst hd
  obtain ⟨v', w', hr, h1, h2, h3, h4, h5⟩ := app_run A o.type hown hsl hm h63 hA
  unfold Oper.wp execOp
  simp only [ho, resolve, invoke, builtin, Sem.run_bind, Sem.run_pure, Result.andThen_ok, List.map_toArray, List.map_cons, List.map_nil, hs, hx, hr]
  exact h v' w' h1 h2 h3 h4 h5
theorem app_by (A : World) (hw : Region.wanted o (yielded ops a.tmps) = true) {s x : Operand} (ho : o.op = .call { callee := .builtin .append, args := #[s, x], argTypes := #[34, 34] })
    {v vx : Value} {n k : Nat} {l m : List Nat} (hs : a.eval s = v) (hown : w.ownsRow A.heap.size 5 1 v n (bys l)) (hx : a.eval x = vx) (hsl : Sl w vx m) (hm : m.length = k) (h63 : n + k ≤ 140737488355328) (hA : Below A.heap.size A w)
    (h : ∀ v' w', w'.ownsRow A.heap.size 5 1 v' (n + k) (bys (l ++ m)) → (v' = .slice none 0 0 ↔ v = .slice none 0 0 ∧ k = 0) → Below A.heap.size A w' → w.grownBy w' v.ownBlock → (v'.ownBlock = v.ownBlock ∨ v'.ownBlock = some w.heap.size) → wpList Try.prog ops Q rest (a.put o.dst v') w') : wpList Try.prog ops Q (o :: rest) a w := by
  unfold wpList
  rw [if_pos hw]
  left
  exact app_byW A o.dst rfl ho hs hown hx hsl hm h63 hA h
end
theorem spell_step (u k : Nat) (hu : u < 18446744073709551616) : ((u : Nat) : Int) / 2 ^ (8 * k) % 256 = ((u / 256 ^ k % 256 : Nat) : Int) := by
  rw [Int.natCast_emod, Int.natCast_ediv, Int.natCast_pow, show (256 : Nat) = 2 ^ 8 from rfl, Int.natCast_pow, ← Int.pow_mul]
  rfl

theorem eq_nil (q : Option Addr) (n c : Nat) (w : World) : (binOp .eql 34 (.slice q n c) (.slice none 0 0)).run Try.prog w = .ok (.bool q.isNone) w := by
  cases q <;> kernel_rfl
theorem sum_step (s x : Nat) (hs : s < 4294967296) (hx : x < 256) : bits .xor .u32 ((s : Nat) : Int) ((x : Nat) : Int) * 16777619 % 4294967296 = ((stp s x : Nat) : Int) := by
  rw [u32_xor_nat s x hs (by omega), stp]
  omega
theorem flat_take (ls : List (List Nat)) (k : Nat) (l : List Nat) (h : ls[k]? = some l) : (ls.take (k + 1)).flatten = (ls.take k).flatten ++ l := by
  rw [List.take_add_one, h, Option.toList_some, List.flatten_append]; simp

end Go.Proofs.Yteililgfjnoabaa
