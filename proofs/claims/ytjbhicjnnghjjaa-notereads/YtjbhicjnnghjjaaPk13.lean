/-
  note.Decode.
  note.Decode of one frame.
  What the laws call besides: alive, large, estuarynum.Num.
  note.Decode of whatever bytes, and of a note's; the fixed fact of the laws.
-/
import Derived.Test.YtjbhicjnnghjjaaPk12
import Derived.Test.YtjbhicjnnghjjaaPk05
import Derived.Lib.SmallJoins
namespace Go.Proofs.Ytjbhicjnnghjjaa
open Go.RowKit Go.Shelf
set_option linter.unusedVariables false

/-- Bytes that are just one frame. -/
def oneFr (b : List Nat) : Prop := insOK b = true ∧ 8 + (insB b).length = b.length
theorem oneFr_frm {b : List Nat} (hb : Byt b) (h : oneFr b) : frm (insB b) = b := by
  obtain ⟨h1, h2⟩ := h
  have h3 := (insOK_iff b).1 h1
  have h4 := (ins_of hb h3.1 h3.2.1 h3.2.2.1).2 h1
  rw [h4, ← insB_len h1, h2, List.take_length]
theorem oneFr_of {N : Nt} (g : GoodN N) : oneFr (bysN N) ∧ insB (bysN N) = numsB (numsN N) := by
  have := ins_frm (numsB (numsN N)) [] (good_fits g)
  rw [List.append_nil] at this
  unfold bysN oneFr
  exact ⟨⟨this.1, by rw [this.2, frm_len]⟩, this.2⟩
/-- No note in form has these bytes. -/
def NoB (b : List Nat) : Prop := ∀ N, WN N → GoodN N → bysN N ≠ b
theorem good_in {N : Nt} (hW : WN N) (g : GoodN N) : In64 (numsN N) := by
  have := fitK_le g.fit
  exact numsN_fit hW (by omega) (by omega) (by omega)
theorem noB_nus {b : List Nat} (h : nus (insB b) = none) : NoB b := fun N hW g e => by
  have := (oneFr_of g).2
  rw [e] at this
  rw [this, nus_put _ (good_in hW g)] at h
  cases h
theorem noB_l {b : List Nat} {l : List Int} (h : nus (insB b) = some l) {N : Nt} (hW : WN N) (g : GoodN N) (e : bysN N = b) : numsN N = l := by
  have := (oneFr_of g).2
  rw [e] at this
  rw [this, nus_put _ (good_in hW g)] at h
  exact Option.some.inj h
theorem noB_read {b : List Nat} {l : List Int} (h : nus (insB b) = some l) (hn : NoN l) : NoB b := fun N hW g e => hn N hW (by have := fitK_le g.fit; omega) (noB_l h hW g e)
theorem noB_form {b : List Nat} {l : List Int} (h : nus (insB b) = some l) {N : Nt} (hN : numsN N = l) (hW : WN N) (hg : ¬ GoodN N) : NoB b := fun M hM g e => hg (g.same (numsN_inj hM hW ((noB_l h hM g e).trans hN.symm)))
theorem yesB {b : List Nat} (hb : Byt b) (h1 : oneFr b) {l : List Int} (h : nus (insB b) = some l) {N : Nt} (hN : numsN N = l) : bysN N = b := by
  unfold bysN
  rw [hN, (nus_back _ (by unfold insB; exact (hb.drop 8).take _) l h).1, oneFr_frm hb h1]

abbrev zNt : Array Value := #[.int .i64 0, .int .i64 0, .int .i64 0, .slice none 0 0, .slice none 0 0, .slice none 0 0]
/-- What Decode answers. -/
def DcP (W : World) (base : Nat) (b : List Nat) (e : Ending) : Prop :=
  (¬ oneFr b ∧ e = .returned (.tuple #[.agg zNt, Err 3])) ∨ (oneFr b ∧ NoB b ∧ e = .returned (.tuple #[.agg zNt, Err 4])) ∨
  (oneFr b ∧ ∃ N vn vo ve, WN N ∧ GoodN N ∧ bysN N = b ∧ e = .returned (.tuple #[ntV N vn vo ve, .nilIface]) ∧ Io W base vn N.ns ∧ SO 73 5 k64 W base vo N.os ∧ SO 82 76 ek W base ve N.es)

set_option maxHeartbeats 1000000 in
set_option maxRecDepth 100000 in
theorem decode_frame (v : Value) (b : List Nat) (w : World) (hv : Sl w v b) (hb : Byt b) (hl : b.length ≤ 100000) (hno : ¬ oneFr b) :
    Calls Try.prog 19 #[v] w fun e w' => DcP w' w.heap.size b e ∧ Below w.heap.size w w' := by
  have HE : Hid (∀ W, DcP W w.heap.size b (.returned (.tuple #[.agg zNt, Err 3]))) := fun W => .inl ⟨hno, rfl⟩
  have hA := ab_alloc (Below.refl w.heap.size w) (.cells zNt 26)
  have hR := Blk.new w zNt 26
  cases hok : insOK b with
  | false =>
    have HU := fun W h => unwrap_no v b W h hb hok
    clear hok
    go_enter Try.func19, Try.ntmps19
    go_wp2_with (go_at_call 36; refine (HU _ (hv.keep hA)).mono ?_; rintro e W2 ⟨rfl, b2⟩; obtain ⟨y0, y1, y2, y3, y4, y5, f0, f1, f2, f3, f4, f5⟩ := six (hR.keep b2))
    obtain ⟨hR3, C3⟩ := blk_six (hR.keep b2) (.int .i64 0) (.int .i64 0) (.int .i64 0) (.slice none 0 0) (.slice none 0 0) (.slice none 0 0)
    exact bodyPost_ret (results_c2 rfl _ _ _ 26 _ (0, 0) _ (Err 3) rfl rfl hR3 Try.underlying26 rfl (info_note _ _ _ _ _ _)) rfl ⟨HE.out _, ab_chg (ab_trans hA b2) C3 (Nat.le_refl _)⟩
  | true =>
    have hle := insB_le hok
    have hlt : 0 < (b.drop (8 + (insB b).length)).length := by
      rw [List.length_drop]
      have : 8 + (insB b).length ≠ b.length := fun h => hno ⟨hok, h⟩
      omega
    have HU := fun W h => unwrap_ok v b W h hb hl hok
    clear hok
    generalize b.drop (8 + (insB b).length) = bh at *
    have hlt' : (0 : Int) < (bh.length : Int) := by omega
    go_enter Try.func19, Try.ntmps19
    go_wp2_with (go_at_call 36; refine (HU _ (hv.keep hA)).mono ?_; rintro e W2 ⟨v1, v2, W1, rfl, b1, O1, O2, b2⟩; obtain ⟨q2, c2, e2, -⟩ := O2.sl; subst e2; obtain ⟨y0, y1, y2, y3, y4, y5, f0, f1, f2, f3, f4, f5⟩ := six ((hR.keep b1).keep b2))
    obtain ⟨hR3, C3⟩ := blk_six ((hR.keep b1).keep b2) (.int .i64 0) (.int .i64 0) (.int .i64 0) (.slice none 0 0) (.slice none 0 0) (.slice none 0 0)
    exact bodyPost_ret (results_c2 rfl _ _ _ 26 _ (0, 0) _ (Err 3) rfl rfl hR3 Try.underlying26 rfl (info_note _ _ _ _ _ _)) rfl ⟨HE.out _, ab_chg (ab_trans hA (ab_trans b1 b2)) C3 (Nat.le_refl _)⟩
end Go.Proofs.Ytjbhicjnnghjjaa
namespace Go.Proofs.Ytjbhicjnnghjjaa
open Go.RowKit Go.Shelf
set_option linter.unusedVariables false

theorem nread_all (v : Value) (l : List Int) (w : World) (hv : Is w v l) (hf : In64 l) (hl : l.length ≤ 19000) :
    Calls Try.prog 38 #[v] w fun e w' => RdP w' w.heap.size l e ∧ Below w.heap.size w w' := by
  match l, hv, hf, hl with
  | k :: f :: t :: r, hv, hf, hl => exact nread_any v k f t r w hv hf (by simp at hl; omega)
  | [], hv, _, _ => exact nread_short v _ w hv (by simp)
  | [_], hv, _, _ => exact nread_short v _ w hv (by simp)
  | [_, _], hv, _, _ => exact nread_short v _ w hv (by simp)

theorem rd_one {W : World} {base : Nat} {l : List Int} {e : Ending} (h : RdP W base l e) : ∃ (ok : Bool) (k f t : Int) (q1 : Option Addr) (n1 c1 : Nat) (q2 : Option Addr) (n2 c2 : Nat) (q3 : Option Addr) (n3 c3 : Nat), e = .returned (.tuple #[.agg #[.int .i64 k, .int .i64 f, .int .i64 t, .slice q1 n1 c1, .slice q2 n2 c2, .slice q3 n3 c3], .bool ok]) ∧
    (ok = true → ∃ N : Nt, k = N.k ∧ f = N.f ∧ t = N.t ∧ numsN N = l ∧ WN N ∧ Io W base (.slice q1 n1 c1) N.ns ∧ SO 73 5 k64 W base (.slice q2 n2 c2) N.os ∧ SO 82 76 ek W base (.slice q3 n3 c3) N.es) ∧ (ok = false → NoN l) := by
  rcases h with ⟨N, vn, vo, ve, hN, hWN, h16, rfl, On, Oo, Oe⟩ | ⟨hno, k, f, t, q1, n1, c1, q2, n2, c2, q3, n3, c3, rfl⟩
  · obtain ⟨q1, c1, rfl⟩ := On.form
    obtain ⟨q2, c2, rfl⟩ := Oo.form (by omega)
    obtain ⟨q3, c3, rfl⟩ := Oe.form (by omega)
    exact ⟨true, _, _, _, _, _, _, _, _, _, _, _, _, rfl, fun _ => ⟨N, rfl, rfl, rfl, hN, hWN, On, Oo, Oe⟩, fun h => by cases h⟩
  · exact ⟨false, _, _, _, _, _, _, _, _, _, _, _, _, rfl, fun h => (by cases h), fun _ => hno⟩
set_option maxHeartbeats 1000000 in
set_option maxRecDepth 100000 in
theorem decode_one (v : Value) (b : List Nat) (w : World) (hv : Sl w v b) (hb : Byt b) (hl : b.length ≤ 100000) (h1 : oneFr b) :
    Calls Try.prog 19 #[v] w fun e w' => DcP w' w.heap.size b e ∧ Below w.heap.size w w' := by
  have HE4 : Hid (NoB b → ∀ W, DcP W w.heap.size b (.returned (.tuple #[.agg zNt, Err 4]))) := fun h W => .inr (.inl ⟨h1, h, rfl⟩)
  have HY : Hid (∀ W N vn vo ve, WN N → GoodN N → bysN N = b → Io W w.heap.size vn N.ns → SO 73 5 k64 W w.heap.size vo N.os → SO 82 76 ek W w.heap.size ve N.es → DcP W w.heap.size b (.returned (.tuple #[ntV N vn vo ve, .nilIface]))) := fun W N vn vo ve a1 a2 a3 a4 a5 a6 => .inr (.inr ⟨h1, N, vn, vo, ve, a1, a2, a3, rfl, a4, a5, a6⟩)
  have hA := ab_alloc (Below.refl w.heap.size w) (.cells zNt 26)
  have hR := Blk.new w zNt 26
  have hle := insB_le h1.1
  have hbh : b.drop (8 + (insB b).length) = [] := by rw [h1.2]; exact List.drop_length
  have HU := fun W h => unwrap_ok v b W h hb hl h1.1
  rw [hbh] at HU
  have hbi : Byt (insB b) := by unfold insB; exact (hb.drop 8).take _
  have HNo1 : Hid (nus (insB b) = none → NoB b) := noB_nus
  have HNo2 : Hid (∀ l, nus (insB b) = some l → NoN l → NoB b) := fun l h => noB_read h
  have HNo3 : Hid (∀ l, nus (insB b) = some l → ∀ N, numsN N = l → WN N → ¬ GoodN N → NoB b) := fun l h N a1 a2 a3 => noB_form h a1 a2 a3
  have HYB : Hid (∀ l, nus (insB b) = some l → ∀ N, numsN N = l → bysN N = b) := fun l h N a1 => yesB hb h1 h a1
  have HNb := nus_back (insB b) hbi
  have HNR : Hid (∀ l, nus (insB b) = some l → numsR (insB b) ((insB b).length : Int) = some l) := fun l h => numsR_some h (.inr (by have := (HNb l h).2.2; omega))
  have HNR0 : Hid (nus (insB b) = none → numsR (insB b) ((insB b).length : Int) = none) := fun h => numsR_none h
  generalize hI : insB b = I at *
  have hIl : I.length ≤ 16376 := by omega
  go_enter Try.func19, Try.ntmps19
  go_upto_region 4 with (go_at_call 36; refine (HU _ (hv.keep hA)).mono ?_; rintro e W2 ⟨v1, v2, W1, rfl, b1, O1, O2, b2⟩; obtain ⟨q2, c2, e2, -⟩ := O2.sl; subst e2; have S1 := O1.sl.keep b2; obtain ⟨q1, c1, e1, -⟩ := id S1; subst e1)
  have hR2 := (hR.keep b1).keep b2
  have hw2 := ab_trans hA (ab_trans b1 b2)
  have HNu := fnums_any _ I (I.length : Int) W2 S1 hbi (by omega)
  clear hR hA b1 b2 O1 O2 HU
  cases hn : nus I with
  | none =>
    have HE : Hid (∀ W, DcP W w.heap.size b (.returned (.tuple #[.agg zNt, Err 4]))) := HE4.out (HNo1.out hn)
    have HR0 := HNR0.out hn
    go_wp2_with (go_at_call 37; refine HNu.mono ?_; rintro e W3 ⟨hnp, b3⟩; obtain rfl := hnp.none HR0; clear hnp; obtain ⟨y0, y1, y2, y3, y4, y5, f0, f1, f2, f3, f4, f5⟩ := six (hR2.keep b3))
    obtain ⟨hR3, C3⟩ := blk_six (hR2.keep b3) (.int .i64 0) (.int .i64 0) (.int .i64 0) (.slice none 0 0) (.slice none 0 0) (.slice none 0 0)
    exact bodyPost_ret (results_c2 rfl _ _ _ 26 _ (0, 0) _ (Err 4) rfl rfl hR3 Try.underlying26 rfl (info_note _ _ _ _ _ _)) rfl ⟨HE.out _, ab_chg (ab_trans hw2 b3) C3 (Nat.le_refl _)⟩
  | some l =>
    have HRs := HNR.out l hn
    obtain ⟨-, hf, hll⟩ := HNb l hn
    have HQ2 : Hid (NoN l → ∀ W, DcP W w.heap.size b (.returned (.tuple #[.agg zNt, Err 4]))) := fun h => HE4.out (HNo2.out l hn h)
    have HQ3 : Hid (∀ N, numsN N = l → WN N → ¬ GoodN N → ∀ W, DcP W w.heap.size b (.returned (.tuple #[.agg zNt, Err 4]))) := fun N a1 a2 a3 => HE4.out (HNo3.out l hn N a1 a2 a3)
    have HQ4 := HYB.out l hn
    clear HE4 HNo1 HNo2 HNo3 HYB HNb HNR HNR0
    go_upto_region 7 with (go_at_call 37; refine HNu.mono ?_; rintro e W3 ⟨hnp, b3⟩; obtain ⟨vl, rfl, Ol⟩ := hnp.some l HRs; clear hnp)
    have hR3 := hR2.keep b3
    have hw3 := ab_trans hw2 b3
    clear hR2 hw2 b3 HNu
    go_upto_region 8 with (go_at_call 38; refine (nread_all _ l _ Ol.is hf (by omega)).mono ?_; rintro e W4 ⟨hrd, b4⟩; obtain ⟨ok, k, f, t, q7, n7, c7, q8, n8, c8, q9, n9, c9, rfl, hyes, hnot⟩ := rd_one hrd; clear hrd)
    have hR4 := (hR3.keep b4).alloc (.cells #[.int .i64 k, .int .i64 f, .int .i64 t, .slice q7 n7 c7, .slice q8 n8 c8, .slice q9 n9 c9] 26)
    have hB4 := Blk.new W4 #[.int .i64 k, .int .i64 f, .int .i64 t, .slice q7 n7 c7, .slice q8 n8 c8, .slice q9 n9 c9] 26
    have hw4 := ab_alloc (ab_trans hw3 b4) (.cells #[.int .i64 k, .int .i64 f, .int .i64 t, .slice q7 n7 c7, .slice q8 n8 c8, .slice q9 n9 c9] 26)
    have hA4 := ab_alloc (Below.refl W4.heap.size W4) (.cells #[.int .i64 k, .int .i64 f, .int .i64 t, .slice q7 n7 c7, .slice q8 n8 c8, .slice q9 n9 c9] 26)
    have hz3 : w.heap.size < W3.heap.size := hR3.lt
    clear hR3 hw3 b4
    cases ok with
    | false =>
      have HE : Hid (∀ W, DcP W w.heap.size b (.returned (.tuple #[.agg zNt, Err 4]))) := HQ2.out (hnot rfl)
      clear HQ2 HQ3 HQ4 HY hnot hyes hA4
      generalize W4.alloc (.cells #[.int .i64 k, .int .i64 f, .int .i64 t, .slice q7 n7 c7, .slice q8 n8 c8, .slice q9 n9 c9] 26) = V at *
      obtain ⟨y0, y1, y2, y3, y4, y5, f0, f1, f2, f3, f4, f5⟩ := six hR4
      go_wp2_with fail
      obtain ⟨hR5, C5⟩ := blk_six hR4 (.int .i64 0) (.int .i64 0) (.int .i64 0) (.slice none 0 0) (.slice none 0 0) (.slice none 0 0)
      exact bodyPost_ret (results_c2 rfl _ _ _ 26 _ (0, 0) _ (Err 4) rfl rfl hR5 Try.underlying26 rfl (info_note _ _ _ _ _ _)) rfl ⟨HE.out _, ab_chg hw4 C5 (Nat.le_refl _)⟩
    | true =>
      obtain ⟨N, rfl, rfl, rfl, hN, hWN, On, Oo, Oe⟩ := hyes rfl
      clear hyes hnot HQ2
      have In := (On.keep hA4).is
      have So := (Oo.keep hA4).sr (by omega)
      have Se := (Oe.keep hA4).sr (by omega)
      have On4 := On.keep hA4
      have Oo4 := Oo.keep hA4
      have Oe4 := Oe.keep hA4
      clear On Oo Oe hA4
      generalize W4.alloc (.cells #[.int .i64 N.k, .int .i64 N.f, .int .i64 N.t, .slice q7 n7 c7, .slice q8 n8 c8, .slice q9 n9 c9] 26) = V at *
      generalize W4.heap.size = B at *
      obtain ⟨p0, p1, p2, p3, p4, p5, -, -, -, -, -, -⟩ := six hB4
      by_cases hg : GoodN N
      · have HE : Hid (∀ W vn vo ve, Io W w.heap.size vn N.ns → SO 73 5 k64 W w.heap.size vo N.os → SO 82 76 ek W w.heap.size ve N.es → DcP W w.heap.size b (.returned (.tuple #[ntV N vn vo ve, .nilIface]))) := fun W vn vo ve h1 h2 h3 => HY.out W N vn vo ve hWN hg (HQ4 N hN) h1 h2 h3
        clear HQ3 HQ4 HY
        go_upto_region 10 with (go_at_call 15; refine (check_any N _ _ _ _ In So Se).mono ?_; rintro e W5 ⟨hck, b5⟩; obtain rfl := hck.1 hg; clear hck)
        have hR5 := hR4.keep b5
        obtain ⟨y0, y1, y2, y3, y4, y5, f0, f1, f2, f3, f4, f5⟩ := six hR5
        clear p0 p1 p2 p3 p4 p5
        obtain ⟨p0, p1, p2, p3, p4, p5, -, -, -, -, -, -⟩ := six (hB4.keep b5)
        go_wp2_with fail
        obtain ⟨hR6, C6⟩ := blk_six hR5 (.int .i64 N.k) (.int .i64 N.f) (.int .i64 N.t) (.slice q7 n7 c7) (.slice q8 n8 c8) (.slice q9 n9 c9)
        exact bodyPost_ret (results_c2 rfl _ _ _ 26 _ (0, 0) _ .nilIface rfl rfl hR6 Try.underlying26 rfl (info_note _ _ _ _ _ _)) rfl
          ⟨HE.out _ _ _ _ ((io_chg (On4.keep b5) C6 hz3).less (Nat.le_of_lt hz3)) ((so_chg (Oo4.keep b5) C6 hz3).less (Nat.le_of_lt hz3)) ((so_chg (Oe4.keep b5) C6 hz3).less (Nat.le_of_lt hz3)), ab_chg (ab_trans hw4 b5) C6 (Nat.le_refl _)⟩
      · have HE : Hid (∀ W, DcP W w.heap.size b (.returned (.tuple #[.agg zNt, Err 4]))) := HQ3.out N hN hWN hg
        clear HQ3 HQ4 HY
        go_upto_region 9 with (go_at_call 15; refine (check_any N _ _ _ _ In So Se).mono ?_; rintro e W5 ⟨hck, b5⟩; obtain rfl := hck.2 hg; clear hck)
        have hR5 := hR4.keep b5
        obtain ⟨y0, y1, y2, y3, y4, y5, f0, f1, f2, f3, f4, f5⟩ := six hR5
        go_wp2_with fail
        obtain ⟨hR6, C6⟩ := blk_six hR5 (.int .i64 0) (.int .i64 0) (.int .i64 0) (.slice none 0 0) (.slice none 0 0) (.slice none 0 0)
        exact bodyPost_ret (results_c2 rfl _ _ _ 26 _ (0, 0) _ (Err 4) rfl rfl hR6 Try.underlying26 rfl (info_note _ _ _ _ _ _)) rfl ⟨HE.out _, ab_chg (ab_trans hw4 b5) C6 (Nat.le_refl _)⟩
end Go.Proofs.Ytjbhicjnnghjjaa
namespace Go.Proofs.Ytjbhicjnnghjjaa
open Go.RowKit
set_option linter.unusedVariables false

theorem ex_nums : strB ([] ++ numsB [0, -1, 1, -300]) = ⟨#[0, 1, 1, 1, 2, 2, 87, 2]⟩ := by decide +kernel
theorem ex_frm : strB (frm ([] : List (List Nat)).flatten) = ⟨#[0, 0, 0, 0, 197, 157, 28, 129]⟩ := by decide +kernel
theorem isl4 (a b c d : Int) (w : World) : (Instr.buildSlice 22 4 #[(0, .int .i64 a), (1, .int .i64 b), (2, .int .i64 c), (3, .int .i64 d)]).run Try.prog w = .ok (.slice (some ⟨w.heap.size, 0, none⟩) 4 4) (w.alloc (.cells (ints [a, b, c, d]).toArray 3)) := by kernel_rfl
/-- What large answers. -/
def LP (ls : List (List Nat)) (e : Ending) : Prop := ∃ r : Bool, e = .returned (.bool r) ∧ (r = false → ls.length ≤ 300 ∧ ls.flatten.length ≤ 65536)
theorem num_nil (w : World) : Calls Try.prog 14 #[.nilIface] w fun e w' => e = .returned (.int .i64 0) ∧ w' = w := by
  go_enter Try.func14, Try.ntmps14
  go_wp2_with fail
  go_ret
  exact ⟨rfl, rfl⟩
theorem ta_err (n : Int) (w : World) : (Instr.typeAssert (Err n) 32 47 true).run Try.prog w = .ok (.tuple #[.int .i64 n, .bool true]) w := by kernel_rfl
theorem num_err (n : Int) (hn : n ≠ 0) (w : World) : Calls Try.prog 14 #[Err n] w fun e w' => e = .returned (.int .i64 n) ∧ w' = w := by
  have h0 : (n == 0) = false := by simp [hn]
  have ht := ta_err n w
  go_enter Try.func14, Try.ntmps14
  go_wp2_with fail
  go_ret
  exact ⟨rfl, rfl⟩
/-- '==' of two errors. -/
theorem eq33 (w : World) : (binOp .eql 32 (Err 3) (Err 3)).run Try.prog w = .ok (.bool true) w := by kernel_rfl
theorem ne33 (w : World) : (binOp .neq 32 (Err 3) (Err 3)).run Try.prog w = .ok (.bool false) w := by kernel_rfl
theorem eq77 (w : World) : (binOp .eql 32 (Err 7) (Err 7)).run Try.prog w = .ok (.bool true) w := by kernel_rfl
theorem eq30 (w : World) : (binOp .eql 32 (Err 3) .nilIface).run Try.prog w = .ok (.bool false) w := by kernel_rfl
theorem ne30 (w : World) : (binOp .neq 32 (Err 3) .nilIface).run Try.prog w = .ok (.bool true) w := by kernel_rfl
theorem ne70 (w : World) : (binOp .neq 32 (Err 7) .nilIface).run Try.prog w = .ok (.bool true) w := by kernel_rfl
theorem ne00 (w : World) : (binOp .neq 32 .nilIface .nilIface).run Try.prog w = .ok (.bool false) w := by kernel_rfl
theorem eq00 (w : World) : (binOp .eql 32 .nilIface .nilIface).run Try.prog w = .ok (.bool true) w := by kernel_rfl
end Go.Proofs.Ytjbhicjnnghjjaa
namespace Go.Proofs.Ytjbhicjnnghjjaa
open Go.RowKit Go.Shelf
set_option linter.unusedVariables false

theorem decode_any (v : Value) (b : List Nat) (w : World) (hv : Sl w v b) (hb : Byt b) (hl : b.length ≤ 100000) :
    Calls Try.prog 19 #[v] w fun e w' => DcP w' w.heap.size b e ∧ Below w.heap.size w w' := by
  by_cases h : oneFr b
  · exact decode_one v b w hv hb hl h
  · exact decode_frame v b w hv hb hl h
theorem bysN_byt (N : Nt) : Byt (bysN N) := frm_byt (numsB_byt _)
theorem bysN_len {N : Nt} (g : GoodN N) : (bysN N).length ≤ 16384 ∧ 8 < (bysN N).length := by
  have := good_fits g
  unfold bysN
  rw [frm_len]
  refine ⟨by omega, ?_⟩
  have h1 := (numB_len N.k).2
  unfold numsN
  rw [numsB_cons, List.length_append]
  omega
theorem decode_back (N : Nt) (v : Value) (w : World) (hW : WN N) (g : GoodN N) (hv : Sl w v (bysN N)) :
    Calls Try.prog 19 #[v] w fun e w' => ∃ M q1 n1 c1 q2 n2 c2 q3 n3 c3, SameN M N ∧ WN M ∧ e = .returned (.tuple #[ntV M (.slice q1 n1 c1) (.slice q2 n2 c2) (.slice q3 n3 c3), .nilIface]) ∧
      Io w' w.heap.size (.slice q1 n1 c1) M.ns ∧ SO 73 5 k64 w' w.heap.size (.slice q2 n2 c2) M.os ∧ SO 82 76 ek w' w.heap.size (.slice q3 n3 c3) M.es ∧ Below w.heap.size w w' := by
  refine (decode_any v _ w hv (bysN_byt N) (by have := bysN_len g; omega)).mono ?_
  rintro e w' ⟨hd, hb⟩
  rcases hd with ⟨h, _⟩ | ⟨_, h, _⟩ | ⟨_, M, vn, vo, ve, hM, gM, hby, rfl, On, Oo, Oe⟩
  · exact absurd (oneFr_of g).1 h
  · exact absurd rfl (h N hW g)
  · obtain ⟨q1, c1, rfl⟩ := On.form
    obtain ⟨q2, c2, rfl⟩ := Oo.form (by omega)
    obtain ⟨q3, c3, rfl⟩ := Oe.form (by omega)
    exact ⟨M, _, _, _, _, _, _, _, _, _, bysN_inj hM hW gM g hby, hM, rfl, On, Oo, Oe, hb⟩

def exN : Nt := ⟨4, 3, 1, [7, 2, 1, 0], [], []⟩
theorem exN_good : GoodN exN := ⟨by simp [exN], by simp [exN], by unfold FitK; simp [exN], fun o ho => by simp [exN] at ho⟩
theorem exN_wf : WN exN := ⟨⟨by simp [exN], by simp [exN]⟩, ⟨by simp [exN], by simp [exN]⟩, ⟨by simp [exN], by simp [exN]⟩, fun x hx => by simp [exN] at hx; omega, fun o ho => by simp [exN] at ho, fun o ho => by simp [exN] at ho⟩

set_option maxHeartbeats 1000000 in
set_option maxRecDepth 100000 in
theorem alive5_any (w : World) : Calls Try.prog 9 #[] w fun e w' => e = .returned (.bool true) ∧ Below w.heap.size w w' := by
  go_enter Try.func9, Try.ntmps9
  go_upto_region 2 with (refine bs_own rfl rfl [7, 2, 1, 0] (by simp only [List.map_toArray, List.map_cons, List.map_nil]; rfl) (isl4n _ _ _ _ _) rfl (by decide) ?_; intro V1 hN1 b1 z1)
  have I1 := own_is hN1
  have hA := ab_alloc (Below.refl V1.heap.size V1) (.cells #[.int .i64 4, .int .i64 3, .int .i64 1, .slice (some ⟨w.heap.size, 0, none⟩) 4 4, .slice none 0 0, .slice none 0 0] 26)
  have I2 := I1.keep hA
  have hw2 := ab_trans b1 hA
  clear I1 hN1 b1 hA
  have HL := bysN_len exN_good
  go_upto_region 3 with (go_at_call 12; refine (encode_ok exN _ _ _ _ I2 (SR.nil _ _ _) (SR.nil _ _ _) exN_wf exN_good).mono ?_; rintro e W3 ⟨v3, rfl, O3, b3⟩; have S3 := O3.sl; obtain ⟨q3, c3, e3, -⟩ := id S3; subst e3)
  have hw3 := ab_trans hw2 b3
  clear hw2 b3 I2 O3
  generalize hbl : (bysN exN).length = bl at *
  have h8 : (8 : Int) < (bl : Int) := by omega
  go_upto_region 4 with (go_at_call 19; refine (decode_back exN _ _ exN_wf exN_good S3).mono ?_; rintro e W4 ⟨M, q1, n1, c1, q2, n2, c2, q4, n4, c4, hs, hWM, rfl, On, Oo, Oe, b4⟩)
  have hk : M.k = 4 := hs.k
  have hf : M.f = 3 := hs.f
  have hns : M.ns = [7, 2, 1, 0] := hs.ns
  have I4 := On.is
  rw [hns] at I4
  have hl4 := I4.len.1
  obtain rfl : 4 = n1 := hl4
  obtain ⟨g, off, rfl, hg, hr⟩ := I4.at (by omega)
  have hA4 := ab_alloc (Below.refl W4.heap.size W4) (.cells #[.int .i64 M.k, .int .i64 M.f, .int .i64 M.t, .slice (some ⟨g, off, none⟩) 4 c1, .slice q2 n2 c2, .slice q4 n4 c4] 26)
  have r0 : ∀ o, (W4.alloc o).cell? ⟨g, off, none⟩ = some (.int .i64 7) := fun o => ((ab_alloc (Below.refl W4.heap.size W4) o).cell (p := ⟨g, off, none⟩) hg).trans (hr 0 7 rfl)
  have hw4 := fun o => ab_alloc (ab_trans hw3 b4) o
  clear On Oo Oe hs hWM I4 hr hA4 hns
  go_wp2_with fail
  go_ret
  exact ⟨rfl, hw4 _⟩
end Go.Proofs.Ytjbhicjnnghjjaa
