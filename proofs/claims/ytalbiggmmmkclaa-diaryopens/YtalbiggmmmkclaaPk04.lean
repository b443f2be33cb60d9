/-
  frame's small functions: turn, unturn, read, spell, Sum; bytes.Clone.
  frame.number and frame.inside.
  How many binary digits amounts have: floor.Bits and the document's Bits.
  frame.Put, frame.Take, frame.Wrap.
-/
import Derived.Test.YtalbiggmmmkclaaPk03
import Derived.Laws.BitsAllLaws
import Derived.Test.YtalbiggmmmkclaaPk02
import Derived.Lib.BitFns
namespace Go.Proofs.Ytalbiggmmmkclaa
open Go.RowKit
set_option linter.unusedVariables false

theorem i64_xor0 (x : Int) (h0 : -9223372036854775808 ≤ x) (h1 : x ≤ 9223372036854775807) : bits .xor .i64 x 0 = x := by
  show IntKind.i64.wrap ((BitVec.ofInt 64 x ^^^ BitVec.ofInt 64 0).toNat : Int) = _
  rw [show BitVec.ofInt 64 0 = 0#64 from by decide, BitVec.xor_zero, BitVec.toNat_ofInt]
  simp [IntKind.wrap, IntKind.bits, IntKind.signed]
  omega
theorem i64_xor1 (x : Int) (h0 : -9223372036854775808 ≤ x) (h1 : x ≤ 9223372036854775807) : bits .xor .i64 x (-1) = -1 - x := by
  show IntKind.i64.wrap ((BitVec.ofInt 64 x ^^^ BitVec.ofInt 64 (-1)).toNat : Int) = _
  rw [show BitVec.ofInt 64 (-1) = BitVec.allOnes 64 from by decide, BitVec.xor_allOnes, BitVec.toNat_not, BitVec.toNat_ofInt]
  simp [IntKind.wrap, IntKind.bits, IntKind.signed]
  omega
theorem turned (n : Int) (h0 : -9223372036854775808 ≤ n) (h1 : n ≤ 9223372036854775807) : IntKind.u64.wrap (bits .xor .i64 (wrap64 (n * 2)) (n / 9223372036854775808)) = ((zig n : Nat) : Int) := by
  have hw : -9223372036854775808 ≤ wrap64 (n * 2) ∧ wrap64 (n * 2) ≤ 9223372036854775807 := by unfold wrap64; omega
  unfold zig
  by_cases c : n < 0
  · have e : n / 9223372036854775808 = -1 := by omega
    rw [e, i64_xor1 _ hw.1 hw.2, if_pos c, IntKind.wrap_u64]
    unfold wrap64; omega
  · have e : n / 9223372036854775808 = 0 := by omega
    rw [e, i64_xor0 _ hw.1 hw.2, if_neg c, IntKind.wrap_u64]
    unfold wrap64; omega
theorem unturned (u : Nat) (h : u < 18446744073709551616) : bits .xor .i64 ((u : Int) / 2) (wrap64 (-wrap64 (bits .and .u64 (u : Int) 1))) = unz u := by
  have e : bits .and .u64 (u : Int) 1 = ((u % 2 : Nat) : Int) := by
    rw [← nat_mask1]
    exact u64_and_nat u 1 h (by omega)
  rw [e]
  unfold unz
  rcases Nat.mod_two_eq_zero_or_one u with c | c
  · rw [c, if_neg (by omega), show wrap64 (-wrap64 ((0 : Nat) : Int)) = 0 from by unfold wrap64; omega, i64_xor0 _ (by omega) (by omega)]
    omega
  · rw [c, if_pos rfl, show wrap64 (-wrap64 ((1 : Nat) : Int)) = -1 from by unfold wrap64; omega, i64_xor1 _ (by omega) (by omega)]
    omega
theorem read_step (l : List Nat) (k x : Nat) (hk : k < 8) (hb : Byt l) (hx : l[k]? = some x) : bits .or .u64 ((val (l.take k) : Nat) : Int) (IntKind.u64.wrap (((x : Nat) : Int) * 2 ^ (8 * k))) = ((val (l.take (k + 1)) : Nat) : Int) := by
  have hxb := hb.at hx
  have hkl : k < l.length := (List.getElem?_eq_some_iff.1 hx).1
  have hlen : (l.take k).length = k := by rw [List.length_take]; omega
  have hv := val_lt (l.take k) (hb.take k)
  rw [hlen, show (256 : Nat) = 2 ^ 8 from rfl, ← Nat.pow_mul] at hv
  have h56 : 2 ^ (8 * k) ≤ 2 ^ 56 := Nat.pow_le_pow_right (by decide) (by omega)
  have e1 : (((x : Nat) : Int) * 2 ^ (8 * k)) = ((x * 2 ^ (8 * k) : Nat) : Int) := by rw [Int.natCast_mul, Int.natCast_pow]; rfl
  have hlt : x * 2 ^ (8 * k) < 18446744073709551616 := by
    have : x * 2 ^ (8 * k) ≤ 255 * 2 ^ 56 := Nat.mul_le_mul (by omega) h56
    omega
  rw [e1, IntKind.wrap_u64, Int.emod_eq_of_lt (by omega) (by omega), u64_or_nat _ _ (by omega) hlt, Nat.or_comm, nat_join (8 * k) _ _ (Nat.mul_mod_left ..) hv]
  congr 1
  rw [List.take_add_one, hx, Option.toList_some, val_snoc, hlen, show (256 : Nat) = 2 ^ 8 from rfl, ← Nat.pow_mul]
  omega
theorem read_any (v : Value) (l : List Nat) (w : World) (hv : Sl w v l) (hb : Byt l) (h8 : l.length ≤ 8) :
    Calls Try.prog 60 #[v] w fun e w' => e = .returned (.int .u64 ((val l : Nat) : Int)) ∧ w' = w := by
  obtain ⟨q, cap, g, off, rfl, hc, hm, hp, hg, hr⟩ := hv.open
  clear hv
  generalize hn : l.length = n at *
  go_enter Try.func60, Try.ntmps60
  go_wp2_with fail
  go_loopw [3, 7] (fun s i wr => ∃ k : Nat, k ≤ n ∧ i = .int .i64 (k : Int) ∧ s = .int .u64 ((val (l.take k) : Nat) : Int) ∧ wr = w) (fun _ i _ => n - (intOf i).toNat)
  case atStart => exact ⟨0, by omega, rfl, rfl, rfl⟩
  case round =>
    obtain ⟨k, hk, rfl, rfl, rfl⟩ := hrel
    by_cases c : k = n
    · subst c
      rw [List.take_of_length_le (by omega)]
      clear hp hg hr hb
      go_wp2_with fail
      go_ret
      exact ⟨rfl, rfl⟩
    · obtain ⟨x, hx⟩ : ∃ x, l[k]? = some x := ⟨l[k], List.getElem?_eq_getElem (by omega)⟩
      obtain rfl := hp (by omega)
      have d := hr k x hx
      have hxb := hb.at hx
      have hki : (k : Int) < (n : Int) := by omega
      have hkn : k < n := by omega
      have HS : Hid (bits .or .u64 ((val (l.take k) : Nat) : Int) (IntKind.u64.wrap (((x : Nat) : Int) * 2 ^ (8 * k))) = ((val (l.take (k + 1)) : Nat) : Int)) := read_step l k x (by omega) hb hx
      clear hr hp hg hb hx
      go_wp2_with fail
      refine ⟨⟨k + 1, by omega, rfl, by rw [HS.out], trivial⟩, by simp only [intOf]; omega⟩

section
variable {ops : Array Oper} {rest : List Oper} {o : Oper} {a : Act} {w : World} {Q : Exit → Act → World → Prop}
/-- A slice of bytes, just made. -/
theorem own_newB (w : World) (xs : List Nat) (n : Nat) (hn : xs.length = n) (hm : n ≤ maxLen) (base : Nat) (hb : base ≤ w.heap.size) : (w.alloc (.cells (bys xs).toArray 5)).ownsRow base 5 1 (.slice (some ⟨w.heap.size, 0, none⟩) n n) n (bys xs) := by
  refine ⟨by rw [bys_len, hn, Nat.mul_one], .inr ⟨w.heap.size, n, (bys xs).toArray, rfl, hb, ?_, Nat.le_refl _, hm, ?_, ?_⟩⟩
  · show (w.heap.push _)[w.heap.size]? = _; simp
  · simp [bys_len, hn]
  · rw [Nat.mul_one, ← hn, ← bys_len xs]; simp
theorem bsb0 (w : World) : (Instr.buildSlice 39 0 #[]).run Try.prog w = .ok (.slice (some ⟨w.heap.size, 0, none⟩) 0 0) (w.alloc (.cells (bys []).toArray 5)) := by kernel_rfl
theorem bsb1 (a : Nat) (w : World) : (Instr.buildSlice 39 1 #[(0, .int .u8 ((a : Nat) : Int))]).run Try.prog w = .ok (.slice (some ⟨w.heap.size, 0, none⟩) 1 1) (w.alloc (.cells (bys [a]).toArray 5)) := by kernel_rfl
theorem bsb2 (a b : Nat) (w : World) : (Instr.buildSlice 39 2 #[(0, .int .u8 ((a : Nat) : Int)), (1, .int .u8 ((b : Nat) : Int))]).run Try.prog w = .ok (.slice (some ⟨w.heap.size, 0, none⟩) 2 2) (w.alloc (.cells (bys [a, b]).toArray 5)) := by kernel_rfl
theorem bsb4 (a b c d : Nat) (w : World) : (Instr.buildSlice 39 4 #[(0, .int .u8 ((a : Nat) : Int)), (1, .int .u8 ((b : Nat) : Int)), (2, .int .u8 ((c : Nat) : Int)), (3, .int .u8 ((d : Nat) : Int))]).run Try.prog w = .ok (.slice (some ⟨w.heap.size, 0, none⟩) 4 4) (w.alloc (.cells (bys [a, b, c, d]).toArray 5)) := by kernel_rfl
theorem bs_byW {K : Act → World → Prop} (d : Option Tmp) (hd : o.dst = d) {n : Nat} {parts : Array (Nat × Operand)} (ho : o.op = .buildSlice 39 n parts) (xs : List Nat) {vs : Array (Nat × Value)} (hl : parts.map (fun (i, x) => (i, a.eval x)) = vs)
    (hrun : (Instr.buildSlice 39 n vs).run Try.prog w = .ok (.slice (some ⟨w.heap.size, 0, none⟩) n n) (w.alloc (.cells (bys xs).toArray 5))) (hn : xs.length = n) (hm : n ≤ maxLen)
    (h : ∀ W', W'.ownsRow w.heap.size 5 1 (.slice (some ⟨w.heap.size, 0, none⟩) n n) n (bys xs) → Below w.heap.size w W' → W'.heap.size = w.heap.size + 1 → K (a.put d (.slice (some ⟨w.heap.size, 0, none⟩) n n)) W') : o.wp Try.prog a w K Q := by
  subst hd
  unfold Oper.wp execOp
  simp only [ho, Sem.run_bind, hl, hrun, Result.andThen_ok]
  exact h _ (own_newB w xs n hn hm _ (Nat.le_refl _)) ((Below.refl _ _).alloc (Nat.le_refl _) _) (by simp)
theorem bs_by (hw : Region.wanted o (yielded ops a.tmps) = true) {n : Nat} {parts : Array (Nat × Operand)} (ho : o.op = .buildSlice 39 n parts) (xs : List Nat) {vs : Array (Nat × Value)} (hl : parts.map (fun (i, x) => (i, a.eval x)) = vs)
    (hrun : (Instr.buildSlice 39 n vs).run Try.prog w = .ok (.slice (some ⟨w.heap.size, 0, none⟩) n n) (w.alloc (.cells (bys xs).toArray 5))) (hn : xs.length = n) (hm : n ≤ maxLen)
    (h : ∀ W', W'.ownsRow w.heap.size 5 1 (.slice (some ⟨w.heap.size, 0, none⟩) n n) n (bys xs) → Below w.heap.size w W' → W'.heap.size = w.heap.size + 1 → wpList Try.prog ops Q rest (a.put o.dst (.slice (some ⟨w.heap.size, 0, none⟩) n n)) W') : wpList Try.prog ops Q (o :: rest) a w := by
  unfold wpList
  rw [if_pos hw]
  left
  exact bs_byW o.dst rfl ho xs hl hrun hn hm h
/-- append of bytes onto an own slice: its run. -/
theorem app_run (A : World) (ty : TypeId) {v vx : Value} {n k : Nat} {l m : List Nat} (hown : w.ownsRow A.heap.size 5 1 v n (bys l)) (hsl : Sl w vx m) (hm : m.length = k) (h63 : n + k ≤ 1000000) (hA : Below A.heap.size A w) :
    ∃ v' w', (Builtin.append_ #[39, 39] ty #[v, vx]).run Try.prog w = .ok v' w' ∧ w'.ownsRow A.heap.size 5 1 v' (n + k) (bys (l ++ m)) ∧ (v' = .slice none 0 0 ↔ v = .slice none 0 0 ∧ k = 0) ∧ Below A.heap.size A w' ∧ w.grownBy w' v.ownBlock ∧ (v'.ownBlock = v.ownBlock ∨ v'.ownBlock = some w.heap.size) := by
  obtain ⟨i, hi, hz0, hz1, hz2⟩ := info_parts infoByte
  subst hm
  obtain ⟨q, cap, rfl, hq, hsrc⟩ := hsl.src
  cases q with
  | none =>
    have h0 := hq rfl
    have hm0 : m = [] := List.eq_nil_of_length_eq_zero h0
    subst hm0
    exact ⟨v, w, append_none (P := Try.prog) w A.heap.size 39 ty 5 i 1 cap Try.underlying39 hi v n (bys l) hown, by simpa using hown, by simp, hA, ⟨rfl, rfl, rfl, Nat.le_refl _, fun _ _ _ => rfl⟩, .inl rfl⟩
  | some ad =>
    obtain ⟨v', w', hr, h2, h3, h4, h5⟩ := run_append_own_at (P := Try.prog) w A.heap.size 39 ty 5 i _ 1 1 Try.underlying39 hi hz0 hz1 hz2 rfl (by omega) v n (bys l) hown ad m.length cap (bys m) (by rw [bys_len, Nat.mul_one]) (hsrc ad rfl) (bys_one m) (by unfold maxLen; omega) (by omega) hA.size
    refine ⟨v', w', hr, by rw [← bys_append]; exact h2, h4, ?_, h3, h5⟩
    refine hA.grown h3 hA.size (fun r hr => ?_)
    rcases hown.2 with ⟨rfl, _⟩ | ⟨g', cap', cur', rfl, hbg, _⟩
    · cases hr
    · cases hr; exact hbg
theorem app_byW {K : Act → World → Prop} (A : World) (d : Option Tmp) (hd : o.dst = d) {s x : Operand} (ho : o.op = .call { callee := .builtin .append, args := #[s, x], argTypes := #[39, 39] })
    {v vx : Value} {n k : Nat} {l m : List Nat} (hs : a.eval s = v) (hown : w.ownsRow A.heap.size 5 1 v n (bys l)) (hx : a.eval x = vx) (hsl : Sl w vx m) (hm : m.length = k) (h63 : n + k ≤ 1000000) (hA : Below A.heap.size A w)
    (h : ∀ v' w', w'.ownsRow A.heap.size 5 1 v' (n + k) (bys (l ++ m)) → (v' = .slice none 0 0 ↔ v = .slice none 0 0 ∧ k = 0) → Below A.heap.size A w' → w.grownBy w' v.ownBlock → (v'.ownBlock = v.ownBlock ∨ v'.ownBlock = some w.heap.size) → K (a.put d v') w') : o.wp Try.prog a w K Q := by
  subst hd
  obtain ⟨v', w', hr, h1, h2, h3, h4, h5⟩ := app_run A o.type hown hsl hm h63 hA
  unfold Oper.wp execOp
  simp only [ho, resolve, invoke, builtin, Sem.run_bind, Sem.run_pure, Result.andThen_ok, List.map_toArray, List.map_cons, List.map_nil, hs, hx, hr]
  exact h v' w' h1 h2 h3 h4 h5
theorem app_by (A : World) (hw : Region.wanted o (yielded ops a.tmps) = true) {s x : Operand} (ho : o.op = .call { callee := .builtin .append, args := #[s, x], argTypes := #[39, 39] })
    {v vx : Value} {n k : Nat} {l m : List Nat} (hs : a.eval s = v) (hown : w.ownsRow A.heap.size 5 1 v n (bys l)) (hx : a.eval x = vx) (hsl : Sl w vx m) (hm : m.length = k) (h63 : n + k ≤ 1000000) (hA : Below A.heap.size A w)
    (h : ∀ v' w', w'.ownsRow A.heap.size 5 1 v' (n + k) (bys (l ++ m)) → (v' = .slice none 0 0 ↔ v = .slice none 0 0 ∧ k = 0) → Below A.heap.size A w' → w.grownBy w' v.ownBlock → (v'.ownBlock = v.ownBlock ∨ v'.ownBlock = some w.heap.size) → wpList Try.prog ops Q rest (a.put o.dst v') w') : wpList Try.prog ops Q (o :: rest) a w := by
  unfold wpList
  rw [if_pos hw]
  left
  exact app_byW A o.dst rfl ho hs hown hx hsl hm h63 hA h
end
theorem spell_step (u k : Nat) (hu : u < 18446744073709551616) : ((u : Nat) : Int) / 2 ^ (8 * k) % 256 = ((u / 256 ^ k % 256 : Nat) : Int) := by
  rw [Int.natCast_emod, Int.natCast_ediv, Int.natCast_pow, show (256 : Nat) = 2 ^ 8 from rfl, Int.natCast_pow, ← Int.pow_mul]
  rfl

set_option maxHeartbeats 400000 in
theorem spell_any (A : World) (v : Value) (l : List Nat) (n u s : Nat) (w : World) (hA : Below A.heap.size A w) (hown : w.ownsRow A.heap.size 5 1 v n (bys l)) (hn : n ≤ 500000) (hs : s ≤ 8) (hu : u < 18446744073709551616) :
    Calls Try.prog 54 #[v, .int .u64 ((u : Nat) : Int), .int .i64 ((s : Nat) : Int)] w fun e w' => ∃ v', e = .returned v' ∧ w'.ownsRow A.heap.size 5 1 v' (n + s) (bys (l ++ spl u s)) ∧ Below A.heap.size A w' := by
  go_enter Try.func54, Try.ntmps54
  go_wp2_with fail
  go_loopw [0, 9] (fun x i wr => ∃ k : Nat, k ≤ s ∧ i = .int .i64 (k : Int) ∧ wr.ownsRow A.heap.size 5 1 x (n + k) (bys (l ++ spl u k)) ∧ Below A.heap.size A wr) (fun _ i _ => s - (intOf i).toNat)
  case atStart => exact ⟨0, by omega, rfl, by simpa [spl] using hown, hA⟩
  case round =>
    clear hown hA
    obtain ⟨k, hk, rfl, hown, hA⟩ := hrel
    by_cases c : k = s
    · subst c
      go_wp2_with fail
      go_ret
      exact ⟨_, rfl, hown, hA⟩
    · have hki : (k : Int) < (s : Int) := by omega
      have hkn : k < s := by omega
      have HS : Hid (((u : Nat) : Int) / 2 ^ (8 * k) % 256 = ((u / 256 ^ k % 256 : Nat) : Int)) := spell_step u k hu
      go_wp2_with (first
        | (refine bs_by rfl rfl [u / 256 ^ k % 256] (vs := #[(0, .int .u8 ((u / 256 ^ k % 256 : Nat) : Int))]) (by rw [← HS.out]; simp only [List.map_toArray, List.map_cons, List.map_nil]; rfl) (bsb1 _ _) rfl (by decide) ?_; intro W1 hN b1 z1)
        | (at_builtin; refine app_by A rfl rfl rfl (own_keep hown b1) rfl (own_sl hN).2 rfl (by show n + k + 1 ≤ _; omega) (ab_trans hA b1) ?_; intro v' W2 hown2 hnil2 hA2 hgr2 hat2))
      refine ⟨⟨k + 1, by omega, rfl, ?_, hA2⟩, by simp only [intOf]; omega⟩
      rw [List.append_assoc] at hown2
      exact hown2

theorem eq_nil (q : Option Addr) (n c : Nat) (w : World) : (binOp .eql 39 (.slice q n c) (.slice none 0 0)).run Try.prog w = .ok (.bool q.isNone) w := by
  cases q <;> kernel_rfl
set_option maxHeartbeats 400000 in
theorem clone_any (v : Value) (l : List Nat) (w : World) (hv : Sl w v l) (hn : l.length ≤ 1000000) :
    Calls Try.prog 47 #[v] w fun e w' => ∃ v', e = .returned v' ∧ w'.ownsRow w.heap.size 5 1 v' l.length (bys l) ∧ Below w.heap.size w w' := by
  obtain ⟨q, cap, g, off, rfl, hc, hm, hp, hg, hr⟩ := hv.open
  cases q with
  | none =>
    have h0 : ¬ 0 < l.length := fun h => by have := hp h; cases this
    have : l = [] := List.eq_nil_of_length_eq_zero (by omega)
    subst this
    clear hv hr hp hg
    have he := eq_nil none 0 cap w
    go_enter Try.func47, Try.ntmps47
    go_wp2_with fail
    go_ret
    exact ⟨_, rfl, World.ownsRow_nil w _ _ _, Below.refl _ _⟩
  | some ad =>
    clear hr hp hg
    generalize hl : l.length = n at *
    have he := eq_nil (some ad) n cap w
    go_enter Try.func47, Try.ntmps47
    go_wp2_with (first
        | (refine bs_by rfl rfl [] (vs := #[]) (by simp) (bsb0 _) rfl (by decide) ?_; intro W1 hN b1 z1)
        | (at_builtin; refine app_by w rfl rfl rfl hN rfl (hv.keep b1) hl (by omega) b1 ?_; intro v' W2 hown2 hnil2 hA2 hgr2 hat2))
    go_ret
    exact ⟨_, rfl, by simpa using hown2, hA2⟩
theorem sum_step (s x : Nat) (hs : s < 4294967296) (hx : x < 256) : bits .xor .u32 ((s : Nat) : Int) ((x : Nat) : Int) * 16777619 % 4294967296 = ((stp s x : Nat) : Int) := by
  rw [u32_xor_nat s x hs (by omega), stp]
  omega
theorem flat_take (ls : List (List Nat)) (k : Nat) (l : List Nat) (h : ls[k]? = some l) : (ls.take (k + 1)).flatten = (ls.take k).flatten ++ l := by
  rw [List.take_add_one, h, Option.toList_some, List.flatten_append]; simp

set_option maxHeartbeats 400000 in
theorem sum_any (v : Value) (vs : List Value) (ls : List (List Nat)) (w : World) (hv : Ls w v vs ls) (hb : ∀ l ∈ ls, Byt l) :
    Calls Try.prog 55 #[v] w fun e w' => e = .returned (.int .u32 ((sm ls.flatten : Nat) : Int)) ∧ w' = w := by
  obtain ⟨q, cap, g, off, rfl, hc, hm, hp, hg, hr⟩ := hv.open
  obtain ⟨hlen, -, hE⟩ := hv
  generalize hn : ls.length = n at *
  go_enter Try.func55, Try.ntmps55
  go_wp2_with fail
  go_loopw [3, 10] (fun s i wr => ∃ k : Nat, k ≤ n ∧ i = .int .i64 (k : Int) ∧ s = .int .u32 ((sm (ls.take k).flatten : Nat) : Int) ∧ wr = w) (fun _ i _ => n - (intOf i).toNat)
  case atStart => exact ⟨0, by omega, rfl, rfl, rfl⟩
  case round =>
    obtain ⟨k, hk, rfl, rfl, rfl⟩ := hrel
    by_cases c : k = n
    · subst c
      rw [List.take_of_length_le (by omega)]
      clear hp hg hr hb hE
      go_wp2_with fail
      go_ret
      exact ⟨rfl, rfl⟩
    · obtain ⟨x, hx⟩ : ∃ x, vs[k]? = some x := ⟨vs[k], List.getElem?_eq_getElem (by omega)⟩
      obtain ⟨l, hl⟩ : ∃ l, ls[k]? = some l := ⟨ls[k], List.getElem?_eq_getElem (by omega)⟩
      obtain rfl := hp (by omega)
      have d := hr k x hx
      obtain ⟨q2, cap2, g2, off2, rfl, hc2, hm2, hp2, hg2, hr2⟩ := (hE k x l hx hl).open
      have hbl := hb l (List.mem_of_getElem? hl)
      have hki : (k : Int) < (n : Int) := by omega
      have hkn : k < n := by omega
      have HF : Hid ((ls.take (k + 1)).flatten = (ls.take k).flatten ++ l) := flat_take ls k l hl
      clear hr hp hg hb hx hE hl
      generalize hn2 : l.length = n2 at *
      go_wp2_with fail
      go_loopw [3, 16] (fun s i wr' => ∃ j : Nat, j ≤ n2 ∧ i = .int .i64 (j : Int) ∧ s = .int .u32 ((sm ((ls.take k).flatten ++ l.take j) : Nat) : Int) ∧ wr' = wr) (fun _ i _ => n2 - (intOf i).toNat)
      case atStart => exact ⟨0, by omega, rfl, by simp, rfl⟩
      case round =>
        obtain ⟨j, hj, rfl, rfl, rfl⟩ := hrel
        by_cases c2 : j = n2
        · subst c2
          have ht : l.take j = l := List.take_of_length_le (by omega)
          rw [ht, ← HF.out]
          clear ht
          clear hp2 hg2 hr2 hbl
          go_wp2_with fail
          exact ⟨⟨k + 1, by omega, rfl, rfl, trivial⟩, by simp only [intOf]; omega⟩
        · obtain ⟨x, hx⟩ : ∃ x, l[j]? = some x := ⟨l[j], List.getElem?_eq_getElem (by omega)⟩
          obtain rfl := hp2 (by omega)
          have d2 := hr2 j x hx
          have hxb := hbl.at hx
          have hji : (j : Int) < (n2 : Int) := by omega
          have hjn : j < n2 := by omega
          have HS : Hid (bits .xor .u32 ((sm ((ls.take k).flatten ++ l.take j) : Nat) : Int) ((x : Nat) : Int) * 16777619 % 4294967296 = ((sm ((ls.take k).flatten ++ l.take (j + 1)) : Nat) : Int)) := by
            show _ = _
            rw [sum_step _ _ (sm_lt _) hxb, List.take_add_one, hx, Option.toList_some, ← List.append_assoc]
            unfold sm
            rw [smF_snoc]
          clear hr2 hp2 hg2 hbl hx
          go_wp2_with fail
          exact ⟨⟨j + 1, by omega, rfl, by rw [HS.out], trivial⟩, by simp only [intOf]; omega⟩
end Go.Proofs.Ytalbiggmmmkclaa
namespace Go.Proofs.Ytalbiggmmmkclaa
open Go.RowKit
set_option linter.unusedVariables false

theorem getD_at {l : List Nat} {j : Nat} (h : j < l.length) : l[j]? = some (l.getD j 0) := by
  rw [List.getD_eq_getElem?_getD, List.getElem?_eq_getElem h]; rfl
/-- A part of a slice. -/
theorem Sl.sub {W : World} {q : Option Addr} {n cap : Nat} {l : List Nat} (h : Sl W (.slice q n cap) l) {i j sc : Nat} {v : Value} (hij : i ≤ j) (hjn : j ≤ n) (hsc : sc ≤ cap) (hjc : j ≤ sc) (hv : v = sliced q i j sc 1) : Sl W v ((l.drop i).take (j - i)) := by
  obtain ⟨q', cap', e, h1, h2, h3⟩ := h
  cases e
  have hl : ((l.drop i).take (j - i)).length = j - i := by rw [List.length_take, List.length_drop]; omega
  subst hv
  unfold sliced
  by_cases c : sc = i
  · rw [if_pos c]
    refine ⟨q, sc - i, by rw [hl], by omega, by unfold maxLen at *; omega, fun h0 => ?_⟩
    rw [hl] at h0
    omega
  · rw [if_neg c]
    refine ⟨_, sc - i, by rw [hl], by omega, by unfold maxLen at *; omega, fun h0 => ?_⟩
    rw [hl] at h0
    obtain ⟨g, off, rfl, hg, hr⟩ := h3 (by omega)
    refine ⟨g, off + i, by rw [Option.map_some, Addr.add_mid, Nat.mul_one], hg, brow_take (brow_drop hr i) _⟩
theorem sizeB (w : World) : (sizeOf (Try.prog.elem 39)).run Try.prog w = .ok 1 w := by kernel_rfl
theorem sizeB' (w : World) : (sizeOf 5).run Try.prog w = .ok 1 w := by kernel_rfl
theorem eltB : Try.prog.underlying 39 = some (.slice (Try.prog.elem 39)) := by kernel_rfl
section
variable {ops : Array Oper} {rest : List Oper} {o : Oper} {a : Act} {w : World} {Q : Exit → Act → World → Prop}
theorem slb_lh_run {ρ : Operand → Value} {x y z : Operand} (ho : o.op = .slice 39 x (some y) (some z) none) {q : Option Addr} {n cap i j : Nat} {I J : Int} {ki kj : IntKind}
    (hx : ρ x = .slice q n cap) (hy : ρ y = .int ki I) (hz : ρ z = .int kj J) (hI : I = (i : Int)) (hJ : J = (j : Int)) (h1 : i ≤ j) (h2 : j ≤ cap) : (execOp ρ o).run Try.prog w = .ok (.value (sliced q i j cap 1)) w := by
  subst hI; subst hJ
  unfold execOp
  simp only [ho, hx, hy, hz, Option.map_some, Option.map_none, Sem.run_bind, run_sliceAt_slice w 39 _ _ _ _ eltB, run_slice_lh w 39 q n cap eltB _ _ (i : Int) (j : Int) (by omega) (by omega) (by omega), sizeB, Result.andThen_ok, Sem.run_pure, Int.toNat_natCast]
theorem slb_l_run {ρ : Operand → Value} {x y : Operand} (ho : o.op = .slice 39 x (some y) none none) {q : Option Addr} {n cap i : Nat} {I : Int} {ki : IntKind}
    (hx : ρ x = .slice q n cap) (hy : ρ y = .int ki I) (hI : I = (i : Int)) (h1 : i ≤ n) (h2 : n ≤ cap) : (execOp ρ o).run Try.prog w = .ok (.value (sliced q i n cap 1)) w := by
  subst hI
  unfold execOp
  simp only [ho, hx, hy, Option.map_some, Option.map_none, Sem.run_bind, run_sliceAt_slice w 39 _ _ _ _ eltB, run_slice_l w 39 q n cap eltB _ (i : Int) (by omega) (by omega), sizeB, Result.andThen_ok, Sem.run_pure, Int.toNat_natCast]
theorem slb_h_run {ρ : Operand → Value} {x z : Operand} (ho : o.op = .slice 39 x none (some z) none) {q : Option Addr} {n cap j : Nat} {J : Int} {kj : IntKind}
    (hx : ρ x = .slice q n cap) (hz : ρ z = .int kj J) (hJ : J = (j : Int)) (h2 : j ≤ cap) : (execOp ρ o).run Try.prog w = .ok (.value (sliced q 0 j cap 1)) w := by
  subst hJ
  unfold execOp
  simp only [ho, hx, hz, Option.map_some, Option.map_none, Sem.run_bind, run_sliceAt_slice w 39 _ _ _ _ eltB, run_slice_h w 39 q n cap eltB _ (j : Int) (by omega) (by omega), sizeB, Result.andThen_ok, Sem.run_pure, Int.toNat_natCast]
end
theorem sliced_form (q : Option Addr) (i j m : Nat) : ∃ q', sliced q i j m 1 = .slice q' (j - i) (m - i) := by
  unfold sliced; exact ⟨_, rfl⟩

section
variable {ops : Array Oper} {rest : List Oper} {o : Oper} {a : Act} {w : World} {Q : Exit → Act → World → Prop}
/-- 'b[i:j]' of bytes. -/
theorem slb_lh (hw : Region.wanted o (yielded ops a.tmps) = true) {x y z : Operand} (ho : o.op = .slice 39 x (some y) (some z) none) {q : Option Addr} {n cap : Nat} {I J : Int} {ki kj : IntKind} {l : List Nat} (i j : Nat)
    (hx : a.eval x = .slice q n cap) (hy : a.eval y = .int ki I) (hz : a.eval z = .int kj J) (hI : I = (i : Int)) (hJ : J = (j : Int)) (h1 : i ≤ j) (h2 : j ≤ n) (hsl : Sl w (.slice q n cap) l)
    (hK : ∀ q', Sl w (.slice q' (j - i) (cap - i)) ((l.drop i).take (j - i)) → wpList Try.prog ops Q rest (a.put o.dst (.slice q' (j - i) (cap - i))) w) : wpList Try.prog ops Q (o :: rest) a w := by
  have hc := hsl.len
  obtain ⟨q', e⟩ := sliced_form q i j cap
  have hr := slb_lh_run (w := w) ho hx hy hz hI hJ h1 (by omega)
  rw [e] at hr
  exact valS hw _ hr (hK q' (hsl.sub h1 h2 (Nat.le_refl _) (by omega) e.symm))
/-- 'b[i:]' of bytes. -/
theorem slb_l (hw : Region.wanted o (yielded ops a.tmps) = true) {x y : Operand} (ho : o.op = .slice 39 x (some y) none none) {q : Option Addr} {n cap : Nat} {I : Int} {ki : IntKind} {l : List Nat} (i : Nat)
    (hx : a.eval x = .slice q n cap) (hy : a.eval y = .int ki I) (hI : I = (i : Int)) (h1 : i ≤ n) (hsl : Sl w (.slice q n cap) l)
    (hK : ∀ q', Sl w (.slice q' (n - i) (cap - i)) (l.drop i) → wpList Try.prog ops Q rest (a.put o.dst (.slice q' (n - i) (cap - i))) w) : wpList Try.prog ops Q (o :: rest) a w := by
  have hc := hsl.len
  obtain ⟨q', e⟩ := sliced_form q i n cap
  have hr := slb_l_run (w := w) ho hx hy hI h1 hc.2.1
  rw [e] at hr
  refine valS hw _ hr (hK q' ?_)
  have := hsl.sub h1 (Nat.le_refl _) (Nat.le_refl _) hc.2.1 e.symm
  rwa [List.take_of_length_le (by rw [List.length_drop]; omega)] at this
/-- 'b[:j]' of bytes. -/
theorem slb_h (hw : Region.wanted o (yielded ops a.tmps) = true) {x z : Operand} (ho : o.op = .slice 39 x none (some z) none) {q : Option Addr} {n cap : Nat} {J : Int} {kj : IntKind} {l : List Nat} (j : Nat)
    (hx : a.eval x = .slice q n cap) (hz : a.eval z = .int kj J) (hJ : J = (j : Int)) (h2 : j ≤ n) (hsl : Sl w (.slice q n cap) l)
    (hK : ∀ q', Sl w (.slice q' j cap) (l.take j) → wpList Try.prog ops Q rest (a.put o.dst (.slice q' j cap)) w) : wpList Try.prog ops Q (o :: rest) a w := by
  have hc := hsl.len
  obtain ⟨q', e⟩ := sliced_form q 0 j cap
  have hr := slb_h_run (w := w) ho hx hz hJ (by omega)
  rw [e] at hr
  exact valS hw _ hr (hK q' (hsl.sub (Nat.zero_le _) h2 (Nat.le_refl _) (by omega) e.symm))
end

/-- A slice of one slice of bytes, just made. -/
theorem bsl1 (q : Option Addr) (n c : Nat) (w : World) : (Instr.buildSlice 31 1 #[(0, .slice q n c)]).run Try.prog w = .ok (.slice (some ⟨w.heap.size, 0, none⟩) 1 1) (w.alloc (.cells #[.slice q n c] 39)) := by kernel_rfl
theorem bsl2 (q : Option Addr) (n c : Nat) (q2 : Option Addr) (n2 c2 : Nat) (w : World) : (Instr.buildSlice 31 2 #[(0, .slice q n c), (1, .slice q2 n2 c2)]).run Try.prog w = .ok (.slice (some ⟨w.heap.size, 0, none⟩) 2 2) (w.alloc (.cells #[.slice q n c, .slice q2 n2 c2] 39)) := by kernel_rfl
theorem bsl3 (q : Option Addr) (n c : Nat) (q2 : Option Addr) (n2 c2 : Nat) (q3 : Option Addr) (n3 c3 : Nat) (w : World) : (Instr.buildSlice 31 3 #[(0, .slice q n c), (1, .slice q2 n2 c2), (2, .slice q3 n3 c3)]).run Try.prog w = .ok (.slice (some ⟨w.heap.size, 0, none⟩) 3 3) (w.alloc (.cells #[.slice q n c, .slice q2 n2 c2, .slice q3 n3 c3] 39)) := by kernel_rfl
section
variable {ops : Array Oper} {rest : List Oper} {o : Oper} {a : Act} {w : World} {Q : Exit → Act → World → Prop}
theorem ls_new (w : World) (vs : List Value) (ls : List (List Nat)) (n : Nat) (hn : vs.length = n) (hm : n ≤ maxLen) (hl : ls.length = n) (hE : ∀ (j : Nat) (x : Value) (l : List Nat), vs[j]? = some x → ls[j]? = some l → Sl w x l) :
    Ls (w.alloc (.cells vs.toArray 39)) (.slice (some ⟨w.heap.size, 0, none⟩) n n) vs ls := by
  have hb : Below w.heap.size w (w.alloc (.cells vs.toArray 39)) := (Below.refl _ _).alloc (Nat.le_refl _) _
  subst hn
  refine ⟨hl.symm, ⟨_, _, rfl, Nat.le_refl _, hm, fun h0 => ⟨_, 0, rfl, by simp, fun j x hx => ?_⟩⟩, fun j x l hx hl => (hE j x l hx hl).keep hb⟩
  rw [Nat.zero_add, (Blk.new w vs.toArray 39).cell j]
  simpa using hx
theorem bs_lsW {K : Act → World → Prop} (d : Option Tmp) (hd : o.dst = d) {n : Nat} {parts : Array (Nat × Operand)} (ho : o.op = .buildSlice 31 n parts) (xs : List Value) (ls : List (List Nat)) {vs : Array (Nat × Value)} (hl : parts.map (fun (i, x) => (i, a.eval x)) = vs)
    (hrun : (Instr.buildSlice 31 n vs).run Try.prog w = .ok (.slice (some ⟨w.heap.size, 0, none⟩) n n) (w.alloc (.cells xs.toArray 39))) (hn : xs.length = n) (hm : n ≤ maxLen) (hln : ls.length = n) (hE : ∀ (j : Nat) (x : Value) (l : List Nat), xs[j]? = some x → ls[j]? = some l → Sl w x l)
    (h : ∀ W', Ls W' (.slice (some ⟨w.heap.size, 0, none⟩) n n) xs ls → Below w.heap.size w W' → Blk W' w.heap.size xs.toArray 39 → K (a.put d (.slice (some ⟨w.heap.size, 0, none⟩) n n)) W') : o.wp Try.prog a w K Q := by
  subst hd
  unfold Oper.wp execOp
  simp only [ho, Sem.run_bind, hl, hrun, Result.andThen_ok]
  exact h _ (ls_new w xs ls n hn hm hln hE) ((Below.refl _ _).alloc (Nat.le_refl _) _) (Blk.new w _ _)
theorem bs_ls (hw : Region.wanted o (yielded ops a.tmps) = true) {n : Nat} {parts : Array (Nat × Operand)} (ho : o.op = .buildSlice 31 n parts) (xs : List Value) (ls : List (List Nat)) {vs : Array (Nat × Value)} (hl : parts.map (fun (i, x) => (i, a.eval x)) = vs)
    (hrun : (Instr.buildSlice 31 n vs).run Try.prog w = .ok (.slice (some ⟨w.heap.size, 0, none⟩) n n) (w.alloc (.cells xs.toArray 39))) (hn : xs.length = n) (hm : n ≤ maxLen) (hln : ls.length = n) (hE : ∀ (j : Nat) (x : Value) (l : List Nat), xs[j]? = some x → ls[j]? = some l → Sl w x l)
    (h : ∀ W', Ls W' (.slice (some ⟨w.heap.size, 0, none⟩) n n) xs ls → Below w.heap.size w W' → Blk W' w.heap.size xs.toArray 39 → wpList Try.prog ops Q rest (a.put o.dst (.slice (some ⟨w.heap.size, 0, none⟩) n n)) W') : wpList Try.prog ops Q (o :: rest) a w := by
  unfold wpList
  rw [if_pos hw]
  left
  exact bs_lsW o.dst rfl ho xs ls hl hrun hn hm hln hE h
end
theorem each1 {w : World} {v : Value} {l : List Nat} (h : Sl w v l) : ∀ (j : Nat) (x : Value) (m : List Nat), [v][j]? = some x → [l][j]? = some m → Sl w x m := by
  intro j x m hx hm
  match j, hx, hm with
  | 0, hx, hm => simp at hx hm; subst hx; subst hm; exact h
theorem each2 {w : World} {v v2 : Value} {l l2 : List Nat} (h : Sl w v l) (h2 : Sl w v2 l2) : ∀ (j : Nat) (x : Value) (m : List Nat), [v, v2][j]? = some x → [l, l2][j]? = some m → Sl w x m := by
  intro j x m hx hm
  match j, hx, hm with
  | 0, hx, hm => simp at hx hm; subst hx; subst hm; exact h
  | 1, hx, hm => simp at hx hm; subst hx; subst hm; exact h2
theorem each3 {w : World} {v v2 v3 : Value} {l l2 l3 : List Nat} (h : Sl w v l) (h2 : Sl w v2 l2) (h3 : Sl w v3 l3) : ∀ (j : Nat) (x : Value) (m : List Nat), [v, v2, v3][j]? = some x → [l, l2, l3][j]? = some m → Sl w x m := by
  intro j x m hx hm
  match j, hx, hm with
  | 0, hx, hm => simp at hx hm; subst hx; subst hm; exact h
  | 1, hx, hm => simp at hx hm; subst hx; subst hm; exact h2
  | 2, hx, hm => simp at hx hm; subst hx; subst hm; exact h3

set_option maxHeartbeats 400000 in
theorem inside_no (v : Value) (l : List Nat) (w : World) (hv : Sl w v l) (hb : Byt l) (hno : insOK l = false) :
    Calls Try.prog 50 #[v] w fun e w' => e = .returned (.tuple #[.slice none 0 0, .bool false]) ∧ Below w.heap.size w w' := by
  have hno' : ¬ (insOK l = true) := by simp [hno]
  rw [insOK_iff] at hno'
  obtain ⟨q, cap, g, off, rfl, hc, hm, hp, hg, hr⟩ := hv.open
  by_cases h0 : 8 ≤ l.length
  · have hb4 := hb.take 4
    have hb8 := (hb.drop 4).take 4
    obtain ⟨q1, e1⟩ := sliced_form q 0 4 cap
    obtain ⟨q2, e2⟩ := sliced_form q 4 8 cap
    obtain ⟨q3, e3⟩ := sliced_form q 8 l.length cap
    have s1 := hv.sub (Nat.zero_le 4) (by omega) (Nat.le_refl _) (by omega) e1.symm
    have s2 := hv.sub (i := 4) (j := 8) (by omega) (by omega) (Nat.le_refl _) (by omega) e2.symm
    have s3 := hv.sub h0 (Nat.le_refl _) (Nat.le_refl _) (by omega) e3.symm
    rw [List.take_of_length_le (by rw [List.length_drop]; omega)] at s3
    have HI : Hid (insB l = (l.drop 8).take (val (l.take 4))) := rfl
    have HB3 : Hid (Byt (l.drop 8)) := hb.drop 8
    have hl4 := val_lt _ hb4
    have hl8 := val_lt _ hb8
    have hle4 : (l.take 4).length = 4 := by rw [List.length_take]; omega
    have hle8 : ((l.drop 4).take 4).length = 4 := by rw [List.length_take, List.length_drop]; omega
    rw [hle4] at hl4
    rw [hle8] at hl8
    have HR1 : Hid (∀ W, Below w.heap.size w W → Calls Try.prog 60 #[.slice q1 (4 - 0) (cap - 0)] W fun e w' => e = .returned (.int .u64 ((val (l.take 4) : Nat) : Int)) ∧ w' = W) := fun W hW => read_any _ _ W (s1.keep hW) hb4 (by rw [hle4]; omega)
    have HR2 : Hid (∀ W, Below w.heap.size w W → Calls Try.prog 60 #[.slice q2 (8 - 4) (cap - 4)] W fun e w' => e = .returned (.int .u64 ((val ((l.drop 4).take 4) : Nat) : Int)) ∧ w' = W) := fun W hW => read_any _ _ W (s2.keep hW) hb8 (by rw [hle8]; omega)
    rw [HI.out] at hno'
    generalize hL : l.drop 8 = L at *
    have hLl : L.length = l.length - 8 := by rw [← hL, List.length_drop]
    generalize hn : l.length = n at *
    generalize hv4 : val (l.take 4) = c at *
    generalize hv8 : val ((l.drop 4).take 4) = s at *
    clear hp hg hr hb hno s1 s2 hle4 hle8 hb4 hb8 hL hv4 hv8 HI
    go_enter Try.func50, Try.ntmps50
    go_upto_region 3 with fail
    refine wp_region_below (by kernel_rfl) (by kernel_rfl) ?_
    have HZ := cls_some w
    go_big_quiet_step (fail)
    refine quiet_val rfl (.slice q1 (4 - 0) (cap - 0)) (fun w' hC => by rw [slb_h_run (j := 4) rfl rfl rfl rfl (by omega), e1]) ?_
    go_frame
    go_big_quiet_step (first | (go_at_call 60; exact calls_same (HR1.out _ (Cls.prop _))))
    go_big_quiet_step (fail)
    refine quiet_val rfl (.slice q2 (8 - 4) (cap - 4)) (fun w' hC => by rw [slb_lh_run (i := 4) (j := 8) rfl rfl rfl rfl rfl rfl (by omega) (by omega), e2]) ?_
    go_frame
    go_big_quiet_step (first | (go_at_call 60; exact calls_same (HR2.out _ (Cls.prop _))))
    go_big_quiet_step (fail)
    refine quiet_val rfl (.slice q3 (n - 8) (cap - 8)) (fun w' hC => by rw [slb_l_run (i := 8) rfl rfl rfl rfl h0 hc, e3]) ?_
    go_frame
    repeat (go_big_quiet_step (fail))
    refine wpQuiet_nil ?_
    rintro _ ⟨x, rfl⟩
    obtain ⟨W, hb⟩ := x
    dsimp only
    have s3' := s3.keep hb
    clear s3 HZ HR1 HR2 e1 e2 e3
    by_cases hc1 : c ≤ 16376
    · by_cases hc2 : c ≤ n - 8
      · have hs : sm (L.take c) ≠ s := fun h => hno' ⟨h0, hc1, hc2, h⟩
        have hs2 := sm_lt (L.take c)
        have hsn : ((sm (L.take c) : Int) != (s : Int)) = true := by simp; omega
        clear hno'
        have HBc : Hid (∀ l ∈ [L.take c], Byt l) := by intro l hl; simp at hl; subst hl; exact HB3.out.take _
        have HF : Hid ([L.take c].flatten = L.take c) := by simp [Hid]
        go_wp2_with (first
          | (refine slb_h rfl rfl c rfl rfl rfl (by omega) s3' ?_; intro q4 s4)
          | (refine bs_ls rfl rfl _ [L.take c] (by simp only [List.map_toArray, List.map_cons, List.map_nil]; rfl) (bsl1 _ _ _ _) rfl (by decide) rfl (each1 s4) ?_; intro W2 hls b2 hbk2)
          | (go_at_call 55; refine (sum_any _ _ _ _ hls HBc.out).mono ?_; rintro e W3 ⟨rfl, rfl⟩; rw [HF.out]))
        go_ret2
        exact ⟨rfl, ab_trans hb b2⟩
      · have hc2' : (n : Int) - 8 < c := by omega
        clear hno'
        go_wp2_with fail
        go_ret2
        exact ⟨rfl, hb⟩
    · clear hno'
      go_wp2_with fail
      go_ret2
      exact ⟨rfl, hb⟩
  · have h8 : (l.length : Int) < 8 := by omega
    generalize hn : l.length = n at *
    clear hr hp hg hb hno hno'
    go_enter Try.func50, Try.ntmps50
    go_wp2_with fail
    go_ret2
    exact ⟨rfl, Below.refl _ _⟩

set_option maxHeartbeats 400000 in
theorem inside_ok (v : Value) (l : List Nat) (w : World) (hv : Sl w v l) (hb : Byt l) (hok : insOK l = true) :
    Calls Try.prog 50 #[v] w fun e w' => ∃ q' cap', e = .returned (.tuple #[.slice q' (insB l).length cap', .bool true]) ∧ Sl w' (.slice q' (insB l).length cap') (insB l) ∧ Below w.heap.size w w' := by
  obtain ⟨h0, hc1, hc2, hs⟩ := (insOK_iff l).1 hok
  obtain ⟨q, cap, g, off, rfl, hc, hm, hp, hg, hr⟩ := hv.open
  have hb4 := hb.take 4
  have hb8 := (hb.drop 4).take 4
  obtain ⟨q1, e1⟩ := sliced_form q 0 4 cap
  obtain ⟨q2, e2⟩ := sliced_form q 4 8 cap
  obtain ⟨q3, e3⟩ := sliced_form q 8 l.length cap
  have s1 := hv.sub (Nat.zero_le 4) (by omega) (Nat.le_refl _) (by omega) e1.symm
  have s2 := hv.sub (i := 4) (j := 8) (by omega) (by omega) (Nat.le_refl _) (by omega) e2.symm
  have s3 := hv.sub h0 (Nat.le_refl _) (Nat.le_refl _) (by omega) e3.symm
  rw [List.take_of_length_le (by rw [List.length_drop]; omega)] at s3
  have HI : Hid (insB l = (l.drop 8).take (val (l.take 4))) := rfl
  have HB3 : Hid (Byt (l.drop 8)) := hb.drop 8
  have hl4 := val_lt _ hb4
  have hl8 := val_lt _ hb8
  have hle4 : (l.take 4).length = 4 := by rw [List.length_take]; omega
  have hle8 : ((l.drop 4).take 4).length = 4 := by rw [List.length_take, List.length_drop]; omega
  rw [hle4] at hl4
  rw [hle8] at hl8
  have HR1 : Hid (∀ W, Below w.heap.size w W → Calls Try.prog 60 #[.slice q1 (4 - 0) (cap - 0)] W fun e w' => e = .returned (.int .u64 ((val (l.take 4) : Nat) : Int)) ∧ w' = W) := fun W hW => read_any _ _ W (s1.keep hW) hb4 (by rw [hle4]; omega)
  have HR2 : Hid (∀ W, Below w.heap.size w W → Calls Try.prog 60 #[.slice q2 (8 - 4) (cap - 4)] W fun e w' => e = .returned (.int .u64 ((val ((l.drop 4).take 4) : Nat) : Int)) ∧ w' = W) := fun W hW => read_any _ _ W (s2.keep hW) hb8 (by rw [hle8]; omega)
  rw [HI.out] at hs ⊢
  generalize hL : l.drop 8 = L at *
  have hLl : L.length = l.length - 8 := by rw [← hL, List.length_drop]
  generalize hn : l.length = n at *
  generalize hv4 : val (l.take 4) = c at *
  generalize hv8 : val ((l.drop 4).take 4) = s at *
  clear hp hg hr hb hok s1 s2 hle4 hle8 hb4 hb8 hL hv4 hv8 HI
  go_enter Try.func50, Try.ntmps50
  go_upto_region 3 with fail
  refine wp_region_below (by kernel_rfl) (by kernel_rfl) ?_
  have HZ := cls_some w
  go_big_quiet_step (fail)
  refine quiet_val rfl (.slice q1 (4 - 0) (cap - 0)) (fun w' hC => by rw [slb_h_run (j := 4) rfl rfl rfl rfl (by omega), e1]) ?_
  go_frame
  go_big_quiet_step (first | (go_at_call 60; exact calls_same (HR1.out _ (Cls.prop _))))
  go_big_quiet_step (fail)
  refine quiet_val rfl (.slice q2 (8 - 4) (cap - 4)) (fun w' hC => by rw [slb_lh_run (i := 4) (j := 8) rfl rfl rfl rfl rfl rfl (by omega) (by omega), e2]) ?_
  go_frame
  go_big_quiet_step (first | (go_at_call 60; exact calls_same (HR2.out _ (Cls.prop _))))
  go_big_quiet_step (fail)
  refine quiet_val rfl (.slice q3 (n - 8) (cap - 8)) (fun w' hC => by rw [slb_l_run (i := 8) rfl rfl rfl rfl h0 hc, e3]) ?_
  go_frame
  repeat (go_big_quiet_step (fail))
  refine wpQuiet_nil ?_
  rintro _ ⟨x, rfl⟩
  obtain ⟨W, hb⟩ := x
  dsimp only
  have s3' := s3.keep hb
  clear s3 HZ HR1 HR2 e1 e2 e3
  have hs2 := sm_lt (L.take c)
  have hsn : ((s : Int) != (s : Int)) = false := by simp
  have HBc : Hid (∀ l ∈ [L.take c], Byt l) := by intro l hl; simp at hl; subst hl; exact HB3.out.take _
  have HF : Hid ([L.take c].flatten = L.take c) := by simp [Hid]
  have HL : Hid ((L.take c).length = c) := by show _ = _; rw [List.length_take]; omega
  go_wp2_with (first
    | (refine slb_h rfl rfl c rfl rfl rfl (by omega) s3' ?_; intro q4 s4)
    | (refine bs_ls rfl rfl _ [L.take c] (by simp only [List.map_toArray, List.map_cons, List.map_nil]; rfl) (bsl1 _ _ _ _) rfl (by decide) rfl (each1 s4) ?_; intro W2 hls b2 hbk2)
    | (go_at_call 55; refine (sum_any _ _ _ _ hls HBc.out).mono ?_; rintro e W3 ⟨rfl, rfl⟩; rw [HF.out, hs]))
  go_ret2
  rw [HL.out]
  exact ⟨_, _, rfl, s4.keep b2, ab_trans hb b2⟩
end Go.Proofs.Ytalbiggmmmkclaa
namespace Go.Proofs.Ytalbiggmmmkclaa.floorBits
open Go.RowKit
set_option linter.unusedVariables false

theorem tab_size : Lib.len8tab.size = 256 := by decide +kernel
theorem tab_all : ∀ n : Fin 256, (Lib.len8tab[n.val]'(by rw [tab_size]; exact n.2)).toNat = Lib.bitLen n.val := by decide +kernel
theorem tab_at (n : Nat) (h : n < Lib.len8tab.size) : (Lib.len8tab[n]'h).toNat = Lib.bitLen n := tab_all ⟨n, by rw [tab_size] at h; exact h⟩
theorem fin_num (x y b : Int) (s : Nat) (hx0 : 0 ≤ x) (hx : x ≤ 18446744073709551615) (hy0 : 0 ≤ y) (hy : y ≤ 255) (hs : s ≤ 56) (e : y.toNat = x.toNat / 2 ^ s) (hl : 2 ^ s ≤ x.toNat) (hb : b = (Lib.bitLen y.toNat : Int)) :
    wrap64 (s + wrap64 b) = (Lib.bitLen x.toNat : Int) := by
  have hx' : x.toNat < 2 ^ 64 := by clear hb hl e; omega
  have l := Lib.bitLen_le8' y hy0 hy
  have sh := Lib.bitLen_shift s x.toNat hl hx'
  rw [hb, sh]; rw [e] at l ⊢
  generalize Lib.bitLen (x.toNat / 2 ^ s) = B at l ⊢
  clear hb sh e hl hx'
  unfold wrap64; omega
theorem fin_num0 (x b : Int) (hx0 : 0 ≤ x) (hx : x ≤ 255) (hb : b = (Lib.bitLen x.toNat : Int)) : wrap64 (wrap64 b) = (Lib.bitLen x.toNat : Int) := by
  have l := Lib.bitLen_le8' x hx0 hx
  rw [hb]; clear hb
  generalize Lib.bitLen x.toNat = B at l ⊢
  unfold wrap64; omega
theorem tab_int (n : Nat) (h : n < Lib.len8tab.size) : ((Lib.len8tab[n]'h).toNat : Int) = (Lib.bitLen n : Int) := congrArg Int.ofNat (tab_at n h)

theorem amount_eq (n : Int) (h0 : -9223372036854775808 ≤ n) (h1 : n ≤ 9223372036854775807) : IntKind.u64.wrap (wrap64 (bits .xor .i64 n (sgn n) - sgn n)) = (n.natAbs : Int) := by
  unfold sgn
  by_cases c : n < 0
  · rw [if_pos c, xor_m1 n h0 h1, IntKind.wrap_u64]; unfold wrap64; omega
  · rw [if_neg c, xor_0 n h0 h1, IntKind.wrap_u64]; unfold wrap64; omega

theorem pow_le {j m : Nat} (h : 2 ^ j ≤ m) (hm : m ≤ 9223372036854775807) : j ≤ 62 := by
  rcases Nat.lt_or_ge j 63 with c | c
  · omega
  · have := Nat.pow_le_pow_right (show 0 < 2 by omega) c
    omega
theorem bitLen_of (x k : Nat) (h : 2 ^ k ≤ x) (h' : x < 2 ^ (k + 1)) (hx : x < 2 ^ 64) : Lib.bitLen x = k + 1 := by
  have hp : 0 < 2 ^ k := Nat.two_pow_pos k
  rw [Lib.bitLen_shift k x h hx, show x / 2 ^ k = 1 from Nat.div_eq_of_lt_le (by omega) (by rw [Nat.pow_succ] at h'; omega)]; rfl

theorem bl_bd (n : Int) (h0 : -9223372036854775808 ≤ n) (h1 : n ≤ 9223372036854775807) : Lib.bitLen n.natAbs ≤ 64 := Lib.bitLenAux_le 64 _ 64 (by omega)

end Go.Proofs.Ytalbiggmmmkclaa.floorBits
namespace Go.Proofs.Ytalbiggmmmkclaa
open Go.RowKit
set_option linter.unusedVariables false

/-- A slice of bytes of the call's own. -/
def Ow (W : World) (base : Nat) (v : Value) (l : List Nat) : Prop := W.ownsRow base 5 1 v l.length (bys l)
theorem ow_of {W : World} {base n : Nat} {v : Value} {l : List Nat} (h : W.ownsRow base 5 1 v n (bys l)) : Ow W base v l := by
  have := (own_sl h).1
  unfold Ow
  rw [this]
  exact h
theorem Ow.sl {W : World} {base : Nat} {v : Value} {l : List Nat} (h : Ow W base v l) : Sl W v l := (own_sl h).2
theorem Ow.keep {W W' : World} {base : Nat} {v : Value} {l : List Nat} (h : Ow W base v l) (hb : Below W.heap.size W W') : Ow W' base v l := own_keep h hb
theorem Ow.less {W : World} {base base' : Nat} {v : Value} {l : List Nat} (h : Ow W base v l) (hb : base' ≤ base) : Ow W base' v l := own_less h hb
/-- A slice of numbers, in memory that W has. -/
def Is (W : World) (v : Value) (l : List Int) : Prop := ∃ q cap g off, v = .slice q l.length cap ∧ l.length ≤ cap ∧ cap ≤ 9223372036854775807 ∧ (0 < l.length → q = some ⟨g, off, none⟩) ∧ (0 < l.length → g < W.heap.size) ∧ IRow W g off l
theorem Is.keep {W W' : World} {v : Value} {l : List Int} (h : Is W v l) (hb : Below W.heap.size W W') : Is W' v l := by
  obtain ⟨q, cap, g, off, rfl, h1, h2, h3, h4, h5⟩ := h
  exact ⟨q, cap, g, off, rfl, h1, h2, h3, fun h0 => Nat.lt_of_lt_of_le (h4 h0) hb.size, irow_keep h5 h4 hb⟩
theorem own_is {W : World} {base n : Nat} {v : Value} {l : List Int} (h : W.ownsRow base 3 1 v n (ints l)) : Is W v l := by
  obtain ⟨h1, q, g, cap, rfl, hp, hg, _, _, hc, hm, hr, _⟩ := own_open h (by omega)
  rw [ints_len, Nat.mul_one] at h1
  subst h1
  exact ⟨q, cap, g, 0, rfl, hc, hm, hp, hg, fun j x hx => by rw [Nat.zero_add]; exact hr j _ (by rw [ints_at, hx]; rfl)⟩
/-- All fit. -/
def In64 (l : List Int) : Prop := ∀ x ∈ l, -9223372036854775808 ≤ x ∧ x ≤ 9223372036854775807
theorem numsB_take (l : List Int) (k : Nat) (x : Int) (hx : l[k]? = some x) : numsB (l.take (k + 1)) = numsB (l.take k) ++ numB x := by
  rw [List.take_add_one, hx, Option.toList_some, numsB_snoc]

/-- An error of the program. -/
abbrev Err (n : Int) : Value := .iface 62 (.int .i64 n)
theorem nS_le {l : List Nat} (h : nOK l = true) : nS l ≤ l.length ∧ nS l ≤ 9 ∧ 1 ≤ nS l := by
  have := (nOK_iff l).1 h
  unfold nS
  omega
/-- The lengths of lists, one behind the other. -/
theorem flat_len (ls : List (List Nat)) (k : Nat) (l : List Nat) (h : ls[k]? = some l) : (ls.take (k + 1)).flatten.length = (ls.take k).flatten.length + l.length := by
  rw [flat_take ls k l h, List.length_append]
theorem flat_mono (ls : List (List Nat)) (k : Nat) : (ls.take k).flatten.length ≤ ls.flatten.length := by
  have : ls.flatten = (ls.take k).flatten ++ (ls.drop k).flatten := by rw [← List.flatten_append, List.take_append_drop]
  rw [this, List.length_append]
  omega
theorem flat_byt {ls : List (List Nat)} (h : ∀ l ∈ ls, Byt l) : Byt ls.flatten := by
  intro x hx
  obtain ⟨l, hl, h1⟩ := List.mem_flatten.1 hx
  exact h l hl x h1
set_option maxHeartbeats 400000 in
theorem wrap_noL (v : Value) (vs : List Value) (ls : List (List Nat)) (w : World) (hv : Ls w v vs ls) (hs : ∀ l ∈ ls, l.length ≤ 200000000000000) (hno : 16376 < ls.flatten.length) :
    Calls Try.prog 40 #[v] w fun e w' => e = .returned (.tuple #[.slice none 0 0, Err 7]) ∧ Below w.heap.size w w' := by
  obtain ⟨q, cap, g, off, rfl, hc, hm, hp, hg, hr⟩ := hv.open
  obtain ⟨hlen, -, hE⟩ := hv
  generalize hn : ls.length = n at *
  go_enter Try.func40, Try.ntmps40
  go_wp2_with fail
  go_loopw [4, 12] (fun s i wr => ∃ k : Nat, k ≤ n ∧ i = .int .i64 (k : Int) ∧ s = .int .i64 ((8 + (ls.take k).flatten.length : Nat) : Int) ∧ (ls.take k).flatten.length ≤ 16376 ∧ wr = w) (fun _ i _ => n - (intOf i).toNat)
  case atStart => exact ⟨0, by omega, rfl, rfl, by simp, rfl⟩
  case round =>
    obtain ⟨k, hk, rfl, rfl, hsz, rfl⟩ := hrel
    by_cases c : k = n
    · subst c
      rw [List.take_of_length_le (by omega)] at hsz
      omega
    · obtain ⟨x, hx⟩ : ∃ x, vs[k]? = some x := ⟨vs[k], List.getElem?_eq_getElem (by omega)⟩
      obtain ⟨l, hl⟩ : ∃ l, ls[k]? = some l := ⟨ls[k], List.getElem?_eq_getElem (by omega)⟩
      obtain rfl := hp (by omega)
      have d := hr k x hx
      obtain ⟨q2, cap2, g2, off2, rfl, hc2, hm2, hp2, hg2, hr2⟩ := (hE k x l hx hl).open
      have hl5 := hs l (List.mem_of_getElem? hl)
      have hki : (k : Int) < (n : Int) := by omega
      have hkn : k < n := by omega
      have HF := flat_len ls k l hl
      generalize hA : (ls.take k).flatten.length = A at *
      generalize hn2 : l.length = n2 at *
      clear hr hp hg hx hE hl hs hr2 hp2 hg2
      by_cases hbig : 16376 < A + n2
      · go_wp2_with fail
        go_ret2
        exact ⟨rfl, Below.refl _ _⟩
      · go_wp2_with fail
        exact ⟨⟨k + 1, by omega, rfl, by rw [HF]; congr 1; omega, by omega, trivial⟩, by simp only [intOf]; omega⟩
theorem wrap_no (v : Value) (vs : List Value) (ls : List (List Nat)) (w : World) (hv : Ls w v vs ls) (hs : ∀ l ∈ ls, l.length ≤ 100000) (hno : 16376 < ls.flatten.length) :
    Calls Try.prog 40 #[v] w fun e w' => e = .returned (.tuple #[.slice none 0 0, Err 7]) ∧ Below w.heap.size w w' :=
  wrap_noL v vs ls w hv (fun l hl => Nat.le_trans (hs l hl) (by decide)) hno
theorem spell4 (A : World) (v : Value) (l : List Nat) (u : Nat) (w : World) (hA : Below A.heap.size A w) (hown : Ow w A.heap.size v l) (hn : l.length ≤ 500000) (hu : u < 18446744073709551616) :
    Calls Try.prog 54 #[v, .int .u64 ((u : Nat) : Int), .int .i64 4] w fun e w' => ∃ v', e = .returned v' ∧ Ow w' A.heap.size v' (l ++ spl u 4) ∧ Below A.heap.size A w' :=
  (spell_any A v l l.length u 4 w hA hown hn (by omega) hu).mono fun e w' ⟨v', h1, h2, h3⟩ => ⟨v', h1, ow_of h2, h3⟩
theorem ow_empty {W : World} {base : Nat} {v : Value} (h : W.ownsRow base 5 1 v 0 []) : Ow W base v [] := h
set_option maxHeartbeats 1000000 in
theorem wrap_ok (v : Value) (vs : List Value) (ls : List (List Nat)) (w : World) (hv : Ls w v vs ls) (hb : ∀ l ∈ ls, Byt l) (hok : ls.flatten.length ≤ 16376) :
    Calls Try.prog 40 #[v] w fun e w' => ∃ v', e = .returned (.tuple #[v', .nilIface]) ∧ Ow w' w.heap.size v' (frm ls.flatten) ∧ v' ≠ .slice none 0 0 ∧ Below w.heap.size w w' := by
  have hv0 := hv
  obtain ⟨q, cap, g, off, rfl, hc, hm, hp, hg, hr⟩ := hv.open
  obtain ⟨hlen, -, hE⟩ := hv
  generalize hn : ls.length = n at *
  go_enter Try.func40, Try.ntmps40
  go_wp2_with fail
  go_loopw [4, 12] (fun s i wr => ∃ k : Nat, k ≤ n ∧ i = .int .i64 (k : Int) ∧ s = .int .i64 ((8 + (ls.take k).flatten.length : Nat) : Int) ∧ wr = w) (fun _ i _ => n - (intOf i).toNat)
  case atStart => exact ⟨0, by omega, rfl, rfl, rfl⟩
  case round =>
    obtain ⟨k, hk, rfl, rfl, rfl⟩ := hrel
    by_cases c : k = n
    · subst c
      rw [List.take_of_length_le (by omega)]
      have HM : Hid (∀ k, (ls.take k).flatten.length ≤ ls.flatten.length) := flat_mono ls
      have HF : Hid (frm ls.flatten = spl ls.flatten.length 4 ++ spl (sm ls.flatten) 4 ++ ls.flatten) := rfl
      have hsm := sm_lt ls.flatten
      generalize hT : ls.flatten.length = T at *
      go_upto_region 10 with (refine mk_own wr rfl rfl Try.underlying39 infoByte rfl rfl rfl (by omega) (by unfold maxLen; omega) (Below.refl _ _) ?_; intro v1 W1 hown1 hv1 hb1 hb1'; clear hb1')
      have e8 : (8 : Int) + (T : Int) - 8 = ((T : Nat) : Int) := by omega
      have HO1 := ow_empty hown1
      go_upto_region 11 with (go_at_call 54; refine (spell4 wr _ [] T _ hb1 HO1 (by simp) (by omega)).mono ?_; rintro e W2 ⟨v2, rfl, hown2, hb2⟩)
      have HO2 : Ow W2 wr.heap.size v2 (spl T 4) := hown2
      have hls := hv0.keep hb2
      go_upto_region 12 with (first
        | (go_at_call 55; refine (sum_any _ _ _ _ hls hb).mono ?_; rintro e W3 ⟨rfl, rfl⟩)
        | (go_at_call 54; refine (spell4 wr _ _ _ _ hb2 HO2 (by rw [spl_len]; omega) (by omega)).mono ?_; rintro e W4 ⟨v4, rfl, HO4, hb4⟩))
      clear hown1 hv1 hb1 HO1 hown2 hb2 HO2 hls
      go_wp2_with fail
      go_loopw [7, 38] (fun x i wr' => ∃ j : Nat, j ≤ k ∧ i = .int .i64 (j : Int) ∧ Ow wr' wr.heap.size x (spl T 4 ++ spl (sm ls.flatten) 4 ++ (ls.take j).flatten) ∧ Below wr.heap.size wr wr') (fun _ i _ => k - (intOf i).toNat)
      case atStart => exact ⟨0, by omega, rfl, by simpa using HO4, hb4⟩
      case round =>
        clear HO4 hb4
        obtain ⟨j, hj, rfl, HO, hbj⟩ := hrel
        by_cases c2 : j = k
        · subst c2
          rw [List.take_of_length_le (by omega), ← HF.out] at HO
          clear hp hg hr hb hE hv0
          go_wp2_with fail
          go_ret2
          refine ⟨_, rfl, HO, ?_, hbj⟩
          intro e
          subst e
          have h1 := HO.sl.len
          rw [frm_len] at h1
          omega
        · obtain ⟨x, hx⟩ : ∃ x, vs[j]? = some x := ⟨vs[j], List.getElem?_eq_getElem (by omega)⟩
          obtain ⟨l, hl⟩ : ∃ l, ls[j]? = some l := ⟨ls[j], List.getElem?_eq_getElem (by omega)⟩
          obtain rfl := hp (by omega)
          have d := (hbj.cell (p := ⟨g, off + j, none⟩) (hg (by omega))).trans (hr j x hx)
          have hsx := (hE j x l hx hl).keep hbj
          obtain ⟨q2, cap2, g2, off2, rfl, hc2, hm2, hp2, hg2, hr2⟩ := hsx.open
          have hki : (j : Int) < (k : Int) := by omega
          have hkn : j < k := by omega
          have HFL := flat_len ls j l hl
          have HM1 := HM.out (j + 1)
          have HFT : Hid ((ls.take (j + 1)).flatten = (ls.take j).flatten ++ l) := flat_take ls j l hl
          have HLn : Hid ((spl T 4 ++ spl (sm ls.flatten) 4 ++ (ls.take j).flatten).length + l.length ≤ 1000000) := by
            show _ ≤ _
            rw [List.length_append, List.length_append, spl_len, spl_len]
            omega
          clear hr hp hg hx hE hl hb hv0 hr2 hp2 hg2
          generalize hn2 : l.length = n2 at *
          go_wp2_with (first
            | (at_builtin; refine app_by _ rfl rfl rfl HO rfl hsx hn2 HLn.out hbj ?_; intro v5 W5 hown5 hnil5 hb5 hgr5 hat5))
          refine ⟨⟨j + 1, by omega, rfl, ?_, hb5⟩, by simp only [intOf]; omega⟩
          rw [HFT.out, ← List.append_assoc]
          exact ow_of hown5
    · obtain ⟨x, hx⟩ : ∃ x, vs[k]? = some x := ⟨vs[k], List.getElem?_eq_getElem (by omega)⟩
      obtain ⟨l, hl⟩ : ∃ l, ls[k]? = some l := ⟨ls[k], List.getElem?_eq_getElem (by omega)⟩
      obtain rfl := hp (by omega)
      have d := hr k x hx
      obtain ⟨q2, cap2, g2, off2, rfl, hc2, hm2, hp2, hg2, hr2⟩ := (hE k x l hx hl).open
      have hki : (k : Int) < (n : Int) := by omega
      have hkn : k < n := by omega
      have HF := flat_len ls k l hl
      have HM := flat_mono ls (k + 1)
      generalize hA : (ls.take k).flatten.length = A at *
      generalize hA2 : (ls.take (k + 1)).flatten.length = A2 at *
      generalize hn2 : l.length = n2 at *
      have hbig : ¬ 16376 < A + n2 := by omega
      clear hr hp hg hx hE hl hb hv0 hr2 hp2 hg2
      go_wp2_with fail
      exact ⟨⟨k + 1, by omega, rfl, by rw [hA2]; congr 1; omega, trivial⟩, by simp only [intOf]; omega⟩
end Go.Proofs.Ytalbiggmmmkclaa
