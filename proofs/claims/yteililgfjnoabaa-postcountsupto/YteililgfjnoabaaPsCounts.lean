/-
  What was sent and copied is on its way, was taken up, or was lost, and what is taken up was sent: estuarylaw08.PostCounts returns true for every input of bulk at most 1048576.
-/
import Derived.Test.YteililgfjnoabaaPoK
import Derived.ProofKit
import Derived.OpenShut
import Derived.ChangeOld
import Derived.Below
import Derived.JoinedCond
import Derived.Deep.CondSized
import Derived.Lib.SmallJoins
namespace Go.Proofs.Yteililgfjnoabaa.postCounts
open Go.ChangeShapes Go.WideShapes Go.ChangeAt Go.RowKit Go.Joins
set_option linter.unusedVariables false

set_option maxRecDepth 100000 in
set_option maxHeartbeats 8000000 in
theorem walk {W : World} (q : Option Addr) (n cap g off : Nat) (os : List OpP) (hZ : Sc8 W q n cap g off os) (hU : lsum os ≤ 1048576) :
    Calls Try.prog 4 #[.slice q n cap] W fun e w' => e = .returned (.bool true) ∧ Below W.heap.size W w' := by
  have hmm := @run_makeMap Try.prog
  go_enter Try.func4, Try.ntmps4
  go_upto_region 3 with (go_at_call 9; refine (alive8_any _).mono ?_; rintro e V1 ⟨rfl, hb1⟩)
  have Z1 := hZ.keep hb1
  go_wp2_with fail
  refine (long8_any _ _ _ _ _ _ _ Z1).mono ?_
  rintro e V2 ⟨⟨rr, rfl⟩, b2⟩
  have bW := ab_trans hb1 b2
  have Z2 := Z1.keep b2
  clear Z1 hZ hb1 b2
  cases rr with
  | true =>
    go_wp2_with fail
    go_ret
    exact ⟨rfl, bW⟩
  | false =>
    obtain ⟨hlen, hc, hm, hp, hg, hat, hfew⟩ := Z2
    go_upto_region 6 with (go_at_call 11; refine (pnew_any _).mono ?_; rintro e V3 ⟨rfl, h3, b3⟩)
    go_wp2_with fail
    have hC3 := ct_new V3
    have bm : Below V3.heap.size V3 (V3.alloc (.map #[] 0)) := (Below.refl _ _).alloc (Nat.le_refl _) _
    have h4 := h3.keep bm
    have b4 := ab_trans b3 bm
    generalize V3.alloc (.map #[] 0) = V4 at *
    have hmb : V2.heap.size ≤ V3.heap.size := b3.size
    generalize V3.heap.size = mb at *
    clear h3 b3 bm hmm
    go_loopw [5, 20] (fun al x wr => ∃ (k : Nat) (v' : Value) (l : List (List Nat)) (a t : Nat), k ≤ n ∧ x = .int .i64 (k : Int) ∧ al = .int .i64 ((l.length : Int) + (a : Int) + (t : Int)) ∧ Pt wr V2.heap.size V2.heap.size v' ⟨l, (a : Int), (t : Int)⟩ ∧ Ct wr mb (lsum (os.take k)) l ∧ l.length + a + t ≤ lsum (os.take k) ∧ Below V2.heap.size V2 wr) (fun _ x _ => n - (intOf x).toNat)
    case atStart => exact ⟨0, _, [], 0, 0, by omega, rfl, rfl, h4, hC3, by simp [lsum], b4⟩
    case round =>
      clear h4 hC3 b4
      obtain ⟨k, v5, l, a, t, hk, rfl, rfl, h5, C5, hs5, b5⟩ := hrel
      by_cases ck : k = n
      · subst ck
        clear hat hp hg
        go_wp2_with fail
        go_ret
        exact ⟨rfl, ab_trans bW b5⟩
      · obtain ⟨x, hx⟩ : ∃ x, os[k]? = some x := ⟨os[k], List.getElem?_eq_getElem (by omega)⟩
        obtain rfl := hp (by omega)
        have hgl := hg (by omega)
        have o2 := hat k x hx
        have ox := o2.keep hgl b5
        obtain ⟨d0, d1, d2, -, -, -⟩ := ox
        obtain ⟨-, -, -, rows, hbk, hbn⟩ := o2
        have hii : (k : Int) < (n : Int) := by omega
        have hkn : k < n := by omega
        have HN : Hid (lsum (os.take (k + 1)) = lsum (os.take k) + (x.ls.length + 1)) := by
          show _ = _
          rw [List.take_add_one, hx]
          exact lsum_snoc _ _
        have hNb : lsum (os.take k) + (x.ls.length + 1) ≤ 1048576 := by
          have := lsum_take os (k + 1)
          rw [HN.out] at this
          omega
        generalize hNN : lsum (os.take k) = N at *
        obtain ⟨kd, nn, vr, vs, ls⟩ := x
        dsimp only at d0 d1 d2 rows hbk hbn hNb
        have HN : Hid (lsum (os.take (k + 1)) = N + (ls.length + 1)) := HN.out
        have LV := rows.1
        have hlenr := LV.len
        have hzr := rows.2.1
        have HBY : Hid (∀ l ∈ ls, Byt l ∧ l.length ≤ 9223372036854775807) := fun l hl => ⟨(hzr l hl).1, by have := (hzr l hl).2; omega⟩
        obtain ⟨qr, capr, er⟩ : ∃ q c, vr = .slice q ls.length c := by
          obtain ⟨q', cap', g', off', ep', -⟩ := LV.open
          exact ⟨q', cap', ep'⟩
        subst er
        clear hat hp hg hx rows hzr hNN
        go_upto_region 11 with fail
        have hO := Blk.new wr #[.int .i64 kd, .slice qr ls.length capr, .int .i64 nn] 33
        have b6 : Below wr.heap.size wr (wr.alloc (.cells #[.int .i64 kd, .slice qr ls.length capr, .int .i64 nn] 33)) := (Below.refl _ _).alloc (Nat.le_refl _) _
        generalize wr.alloc (.cells #[.int .i64 kd, .slice qr ls.length capr, .int .i64 nn] 33) = X at *
        have h6 := h5.keep b6
        have C6 := C5.keep b6
        have bX := ab_trans b5 b6
        generalize hbb : wr.heap.size = ob at *
        have o0 := hO.at (i := 0) rfl
        have o1 := hO.at (i := 1) rfl
        have o2 := hO.at (i := 2) rfl
        have hA0 : (0 : Int) ≤ (l.length : Int) + (a : Int) + (t : Int) := by omega
        have hA1 : (l.length : Int) + (a : Int) + (t : Int) ≤ 2000000 := by omega
        clear d0 d1 d2 b6 b5 h5 C5 hbb
        by_cases k0 : kd = 0
        · subst k0
          go_wp2_with fail
          go_loopw [5, 37] (fun al j w2 => ∃ (r : Nat), r ≤ ls.length ∧ j = .int .i64 (r : Int) ∧ al = .int .i64 ((l.length : Int) + (a : Int) + (t : Int) + (r : Int)) ∧ Pt w2 V2.heap.size V2.heap.size v5 ⟨l, (a : Int), (t : Int)⟩ ∧ Ct w2 mb (N + r) (ls.take r ++ l) ∧ Blk w2 ob #[.int .i64 0, .slice qr ls.length capr, .int .i64 nn] 33 ∧ Below V2.heap.size V2 w2) (fun _ j _ => ls.length - (intOf j).toNat)
          case atStart => exact ⟨0, by omega, rfl, by simp, h6, by simpa using C6, hO, bX⟩
          case round =>
            clear h6 C6 bX o0 o1 o2 hO
            obtain ⟨r, hr, rfl, rfl, h6, C6, hO, bX⟩ := hrel
            have o1 := hO.at (i := 1) rfl
            have hB1 : (l.length : Int) + (a : Int) + (t : Int) + (r : Int) ≤ 3000000 := by omega
            have hB2 : (0 : Int) ≤ (l.length : Int) + (a : Int) + (t : Int) + (r : Int) := by omega
            by_cases cr : r = ls.length
            · subst cr
              rw [List.take_of_length_le (Nat.le_refl _)] at C6
              have st := pst_old h6 bX (Nat.le_refl _) LV
              obtain ⟨l9, a9, e9', hl9, hm9, ha9⟩ := puts_count ls l a t (by omega)
              go_upto_region 28 with (go_at_call 14; refine (send_any _ _ _ _ _ _ _ _ _ _ h6 st HBY.out).mono ?_; rw [e9']; rintro e W9 ⟨rfl, v9, h9, m9⟩)
              have C9 := C6.mv h6 m9
              have b9 := bX.trans (h6.below m9)
              have HAl : Hid ((l.length : Int) + (a : Int) + (t : Int) + (ls.length : Int) = (l9.length : Int) + (a9 : Int) + (t : Int)) := by show _ = _; omega
              have D9 : Ct W9 mb (N + (ls.length + 1)) l9 := C9.less (by omega) (fun y hy => by
                rcases hm9 y hy with h | h
                · exact List.mem_append_right _ h
                · exact List.mem_append_left _ h)
              have hs9 : l9.length + a9 + t ≤ N + (ls.length + 1) := by omega
              have hB0 : (l9.length : Int) + (a9 : Int) + (t : Int) ≤ 3000000 := by omega
              clear m9 h6 C6 bX o1 hO C9 e9' hm9 st
              rw [HAl.out]
              clear HAl hl9 hA0 hA1 hB1 hB2 ha9
              obtain ⟨q9, cap9, e9, -⟩ := h9.form
              have c92 := h9.tri.c2
              rw [e9] at c92
              have c90 := h9.tri.c0
              have c91 := h9.tri.c1
              dsimp only at c92 c90 c91
              go_wp2_with (first
                | (go_at_call 21; refine (plen_any _ _ _ _ _ c92).mono ?_; rintro e Y ⟨rfl, hY⟩; subst Y)
                | (go_at_call 22; refine (plost_any _ _ _ c90).mono ?_; rintro e Y ⟨rfl, hY⟩; subst Y)
                | (go_at_call 23; refine (ptaken_any _ _ _ c91).mono ?_; rintro e Y ⟨rfl, hY⟩; subst Y))
              exact ⟨⟨k + 1, v9, l9, a9, t, by omega, rfl, rfl, h9, by rw [HN.out]; exact D9, by rw [HN.out]; exact hs9, b9⟩, by simp only [intOf]; omega⟩
            · obtain ⟨y, hy⟩ : ∃ y, vs[r]? = some y := ⟨vs[r], List.getElem?_eq_getElem (by omega)⟩
              obtain ⟨m, hm'⟩ : ∃ m, ls[r]? = some m := ⟨ls[r], List.getElem?_eq_getElem (by omega)⟩
              obtain ⟨gr, offr, hq, d⟩ := (pst_old h6 bX (Nat.le_refl _) LV).cell (Mv.refl _ _ _) hy
              subst hq
              have sy := (LV.keep bX).each r y m hy hm'
              have cy := sl_str sy
              obtain ⟨qy, ny, cyy, ey⟩ := sy.slice
              have hbm := HBY.out m (List.mem_of_getElem? hm')
              have hri : (r : Int) < (ls.length : Int) := by omega
              have hrn : r < ls.length := by omega
              obtain ⟨c, w', hlk, hup, hc, C7, hgr⟩ := C6.put hbm.1 hbm.2 (by omega)
              have hci : (c : Int) ≤ 2000000 := by omega
              have h7 := h6.map C6 hgr
              have hO7 := blk_map hO C6 hgr
              have b7 := bX.trans (map_below hgr hmb bX.size)
              have D7 : Ct w' mb (N + (r + 1)) (ls.take (r + 1) ++ l) := C7.less (by omega) (fun z hz => by
                rw [List.take_add_one, hm'] at hz
                simp at hz ⊢
                rcases hz with h | h | h
                · exact .inr (.inl h)
                · exact .inl h
                · exact .inr (.inr h))
              subst ey
              clear h6 C6 hO bX hgr C7 hy hm' sy
              go_wp2_with fail
              exact ⟨⟨r + 1, by omega, rfl, by congr 1, h7, D7, hO7, b7⟩, by simp only [intOf]; omega⟩
        · have k0' : (kd == 0) = false := by simpa using k0
          by_cases k1 : kd = 1
          · subst k1
            by_cases hin : 0 ≤ nn ∧ nn < (l.length : Int)
            · obtain ⟨i, rfl⟩ : ∃ i : Nat, nn = (i : Int) := ⟨nn.toNat, by omega⟩
              have hil : i < l.length := by omega
              obtain ⟨m, hm'⟩ : ∃ m, l[i]? = some m := ⟨l[i], List.getElem?_eq_getElem hil⟩
              have hbm := h6.byt m (List.mem_of_getElem? hm')
              go_upto_region 24 with (go_at_call 18; refine (deliver_yes _ _ i _ _ m _ h6 hm').mono ?_; rintro e W9 ⟨x9, v9, rfl, M9, h9, m9⟩)
              have C9 := C6.mv h6 m9
              have b9 := bX.trans (h6.below m9)
              rw [inc_nat t (by omega)] at h9
              obtain ⟨c, hlk, hc1, hc2⟩ := C9.look hbm.1 hbm.2
              have hc3 := hc2 (List.mem_of_getElem? hm')
              have hc0 : ((c : Int) == 0) = false := by simp; omega
              have cx := sl_str M9.sl
              have hle : (l.eraseIdx i).length + 1 = l.length := by rw [List.length_eraseIdx_of_lt hil]; omega
              have HAl : Hid ((l.length : Int) + (a : Int) + (t : Int) = ((l.eraseIdx i).length : Int) + (a : Int) + ((t + 1 : Nat) : Int)) := by show _ = _; omega
              have D9 : Ct W9 mb (N + (ls.length + 1)) (l.eraseIdx i) := C9.less (by omega) (fun m hm => List.mem_of_mem_eraseIdx hm)
              have hs9 : (l.eraseIdx i).length + a + (t + 1) ≤ N + (ls.length + 1) := by omega
              have hB0 : ((l.eraseIdx i).length : Int) + (a : Int) + ((t + 1 : Nat) : Int) ≤ 2000000 := by omega
              clear m9 h6 C6 bX o0 o1 o2 hO M9 C9 hc2
              go_upto_region 28 with fail
              rw [HAl.out]
              generalize hl9 : l.eraseIdx i = l9 at *
              generalize t + 1 = t9 at *
              clear HAl hle hl9 hA0 hA1 cx hlk
              obtain ⟨q9, cap9, e9, -⟩ := h9.form
              have c92 := h9.tri.c2
              rw [e9] at c92
              have c90 := h9.tri.c0
              have c91 := h9.tri.c1
              dsimp only at c92 c90 c91
              go_wp2_with (first
                | (go_at_call 21; refine (plen_any _ _ _ _ _ c92).mono ?_; rintro e Y ⟨rfl, hY⟩; subst Y)
                | (go_at_call 22; refine (plost_any _ _ _ c90).mono ?_; rintro e Y ⟨rfl, hY⟩; subst Y)
                | (go_at_call 23; refine (ptaken_any _ _ _ c91).mono ?_; rintro e Y ⟨rfl, hY⟩; subst Y))
              exact ⟨⟨k + 1, v9, l9, a, t9, by omega, rfl, rfl, h9, by rw [HN.out]; exact D9, by rw [HN.out]; exact hs9, b9⟩, by simp only [intOf]; omega⟩
            · go_upto_region 28 with (go_at_call 18; refine (deliver_no _ _ nn _ _ _ h6 hin).mono ?_; rintro e Y ⟨rfl, hY⟩; subst Y)
              have D9 : Ct X mb (N + (ls.length + 1)) l := C6.less (by omega) (fun m hm => hm)
              have hs9 : l.length + a + t ≤ N + (ls.length + 1) := by omega
              clear C6 o0 o1 o2 hO
              obtain ⟨q9, cap9, e9, -⟩ := h6.form
              have c92 := h6.tri.c2
              rw [e9] at c92
              have c90 := h6.tri.c0
              have c91 := h6.tri.c1
              dsimp only at c92 c90 c91
              go_wp2_with (first
                | (go_at_call 21; refine (plen_any _ _ _ _ _ c92).mono ?_; rintro e Y ⟨rfl, hY⟩; subst Y)
                | (go_at_call 22; refine (plost_any _ _ _ c90).mono ?_; rintro e Y ⟨rfl, hY⟩; subst Y)
                | (go_at_call 23; refine (ptaken_any _ _ _ c91).mono ?_; rintro e Y ⟨rfl, hY⟩; subst Y))
              exact ⟨⟨k + 1, v5, l, a, t, by omega, rfl, rfl, h6, by rw [HN.out]; exact D9, by rw [HN.out]; exact hs9, bX⟩, by simp only [intOf]; omega⟩
          · have k1' : (kd == 1) = false := by simpa using k1
            by_cases k2 : kd = 2
            · subst k2
              by_cases hin : 0 ≤ nn ∧ nn < (l.length : Int)
              · obtain ⟨i, rfl⟩ : ∃ i : Nat, nn = (i : Int) := ⟨nn.toNat, by omega⟩
                have hil : i < l.length := by omega
                go_upto_region 28 with (go_at_call 19; refine (drop_yes _ _ i _ _ _ h6 hil).mono ?_; rintro e W9 ⟨rfl, v9, h9, m9⟩)
                have C9 := C6.mv h6 m9
                have b9 := bX.trans (h6.below m9)
                rw [inc_nat a (by omega)] at h9
                have hle : (l.eraseIdx i).length + 1 = l.length := by rw [List.length_eraseIdx_of_lt hil]; omega
                have HAl : Hid ((l.length : Int) + (a : Int) + (t : Int) = ((l.eraseIdx i).length : Int) + ((a + 1 : Nat) : Int) + (t : Int)) := by show _ = _; omega
                have D9 : Ct W9 mb (N + (ls.length + 1)) (l.eraseIdx i) := C9.less (by omega) (fun m hm => List.mem_of_mem_eraseIdx hm)
                have hs9 : (l.eraseIdx i).length + (a + 1) + t ≤ N + (ls.length + 1) := by omega
                have hB0 : ((l.eraseIdx i).length : Int) + ((a + 1 : Nat) : Int) + (t : Int) ≤ 2000000 := by omega
                clear m9 h6 C6 bX o0 o1 o2 hO C9
                rw [HAl.out]
                generalize hl9 : l.eraseIdx i = l9 at *
                generalize a + 1 = a9 at *
                clear HAl hle hl9 hA0 hA1
                obtain ⟨q9, cap9, e9, -⟩ := h9.form
                have c92 := h9.tri.c2
                rw [e9] at c92
                have c90 := h9.tri.c0
                have c91 := h9.tri.c1
                dsimp only at c92 c90 c91
                go_wp2_with (first
                  | (go_at_call 21; refine (plen_any _ _ _ _ _ c92).mono ?_; rintro e Y ⟨rfl, hY⟩; subst Y)
                  | (go_at_call 22; refine (plost_any _ _ _ c90).mono ?_; rintro e Y ⟨rfl, hY⟩; subst Y)
                  | (go_at_call 23; refine (ptaken_any _ _ _ c91).mono ?_; rintro e Y ⟨rfl, hY⟩; subst Y))
                exact ⟨⟨k + 1, v9, l9, a9, t, by omega, rfl, rfl, h9, by rw [HN.out]; exact D9, by rw [HN.out]; exact hs9, b9⟩, by simp only [intOf]; omega⟩
              · go_upto_region 28 with (go_at_call 19; refine (drop_no _ _ nn _ _ _ h6 hin).mono ?_; rintro e Y ⟨rfl, hY⟩; subst Y)
                have D9 : Ct X mb (N + (ls.length + 1)) l := C6.less (by omega) (fun m hm => hm)
                have hs9 : l.length + a + t ≤ N + (ls.length + 1) := by omega
                clear C6 o0 o1 o2 hO
                obtain ⟨q9, cap9, e9, -⟩ := h6.form
                have c92 := h6.tri.c2
                rw [e9] at c92
                have c90 := h6.tri.c0
                have c91 := h6.tri.c1
                dsimp only at c92 c90 c91
                go_wp2_with (first
                  | (go_at_call 21; refine (plen_any _ _ _ _ _ c92).mono ?_; rintro e Y ⟨rfl, hY⟩; subst Y)
                  | (go_at_call 22; refine (plost_any _ _ _ c90).mono ?_; rintro e Y ⟨rfl, hY⟩; subst Y)
                  | (go_at_call 23; refine (ptaken_any _ _ _ c91).mono ?_; rintro e Y ⟨rfl, hY⟩; subst Y))
                exact ⟨⟨k + 1, v5, l, a, t, by omega, rfl, rfl, h6, by rw [HN.out]; exact D9, by rw [HN.out]; exact hs9, bX⟩, by simp only [intOf]; omega⟩
            · have k2' : (kd == 2) = false := by simpa using k2
              by_cases hin : 0 ≤ nn ∧ nn < (l.length : Int)
              · obtain ⟨i, rfl⟩ : ∃ i : Nat, nn = (i : Int) := ⟨nn.toNat, by omega⟩
                have hil : i < l.length := by omega
                obtain ⟨m, hm'⟩ : ∃ m, l[i]? = some m := ⟨l[i], List.getElem?_eq_getElem hil⟩
                obtain ⟨l9, a9, e9', hl9, hm9⟩ := put1_count l a t m (by omega)
                go_upto_region 13 with (go_at_call 20; refine (copy_yes _ _ i _ _ m _ h6 hm').mono ?_; rw [e9']; rintro e W9 ⟨rfl, v9, h9, m9⟩)
                have C9 := C6.mv h6 m9
                have b9 := bX.trans (h6.below m9)
                have HAl : Hid ((l.length : Int) + (a : Int) + (t : Int) + 1 = (l9.length : Int) + (a9 : Int) + (t : Int)) := by show _ = _; omega
                have D9 : Ct W9 mb (N + (ls.length + 1)) l9 := C9.less (by omega) (fun y hy => by
                  rcases hm9 y hy with h | h
                  · exact h
                  · rw [h]; exact List.mem_of_getElem? hm')
                have hs9 : l9.length + a9 + t ≤ N + (ls.length + 1) := by omega
                have hB0 : (l9.length : Int) + (a9 : Int) + (t : Int) ≤ 2000000 := by omega
                clear m9 h6 C6 bX o0 o1 o2 hO C9 e9' hm9
                go_upto_region 28 with fail
                rw [HAl.out]
                clear HAl hl9 hA0 hA1
                obtain ⟨q9, cap9, e9, -⟩ := h9.form
                have c92 := h9.tri.c2
                rw [e9] at c92
                have c90 := h9.tri.c0
                have c91 := h9.tri.c1
                dsimp only at c92 c90 c91
                go_wp2_with (first
                  | (go_at_call 21; refine (plen_any _ _ _ _ _ c92).mono ?_; rintro e Y ⟨rfl, hY⟩; subst Y)
                  | (go_at_call 22; refine (plost_any _ _ _ c90).mono ?_; rintro e Y ⟨rfl, hY⟩; subst Y)
                  | (go_at_call 23; refine (ptaken_any _ _ _ c91).mono ?_; rintro e Y ⟨rfl, hY⟩; subst Y))
                exact ⟨⟨k + 1, v9, l9, a9, t, by omega, rfl, rfl, h9, by rw [HN.out]; exact D9, by rw [HN.out]; exact hs9, b9⟩, by simp only [intOf]; omega⟩
              · go_upto_region 28 with (go_at_call 20; refine (copy_no _ _ nn _ _ _ h6 hin).mono ?_; rintro e Y ⟨rfl, hY⟩; subst Y)
                have D9 : Ct X mb (N + (ls.length + 1)) l := C6.less (by omega) (fun m hm => hm)
                have hs9 : l.length + a + t ≤ N + (ls.length + 1) := by omega
                clear C6 o0 o1 o2 hO
                obtain ⟨q9, cap9, e9, -⟩ := h6.form
                have c92 := h6.tri.c2
                rw [e9] at c92
                have c90 := h6.tri.c0
                have c91 := h6.tri.c1
                dsimp only at c92 c90 c91
                go_wp2_with (first
                  | (go_at_call 21; refine (plen_any _ _ _ _ _ c92).mono ?_; rintro e Y ⟨rfl, hY⟩; subst Y)
                  | (go_at_call 22; refine (plost_any _ _ _ c90).mono ?_; rintro e Y ⟨rfl, hY⟩; subst Y)
                  | (go_at_call 23; refine (ptaken_any _ _ _ c91).mono ?_; rintro e Y ⟨rfl, hY⟩; subst Y))
                exact ⟨⟨k + 1, v5, l, a, t, by omega, rfl, rfl, h6, by rw [HN.out]; exact D9, by rw [HN.out]; exact hs9, bX⟩, by simp only [intOf]; omega⟩

theorem own : ownKnob Try.prog.godebug = none := by kernel_rfl
theorem laidOut : laidOutB Try.prog = true := by kernel_rfl

set_option maxRecDepth 100000 in
theorem lifted (os : Os) (started : os.Started) (H : Type) (enc : TypeId × Value → H) (FF : Stop.Interp) :
    ReturnsInHanded {} Try.checked os 4 .any ((Rows.OpenSpec.upto Rows.postCountsSpec).pre6 enc Try.prog Try.f4 Rows.postCountsUptoRow.domain false) (((Rows.OpenSpec.upto Rows.postCountsSpec).at FF).post enc Try.prog Try.f4 false true false false) := by
  refine returnsInHanded_of_cond_sized (C := Try.checked) (s := (Rows.OpenSpec.upto Rows.postCountsSpec)) (k := Rows.uptoSmall) rfl own started (by kernel_rfl) Try.func4
    (OpenSpec.witness (enc := enc) (C := Try.checked) (s := (Rows.OpenSpec.upto Rows.postCountsSpec)) (k := Rows.uptoSmall) rfl false ⟨#[], #[.slice none 0 0], []⟩ 8 (by kernel_rfl) (by kernel_rfl) (by kernel_rfl) (x := ([.nil], [], [])) (by kernel_rfl) rfl (by kernel_rfl)) ?_
  intro W base args ds gs before hval0 hW hcnd hk hsz _
  have hval : ∀ (j : Nat) t v, Try.f4.params[j]? = some t → args[j]? = some v → Value.okWide Try.prog W .any base t v := hval0
  have hW' := hW
  obtain ⟨p, q, hA0, hV, rfl, hfz, hnd⟩ := hW
  have hA : DataW.TrodAll enc Try.prog W 0 (fun _ => true) true Try.f4.params.toList args.toList ds p := hA0
  rw [Try.params4] at hA hval
  obtain ⟨v0, vs0, d0, ds0, p0, q0, hargs, rfl, rfl, h0, r0⟩ := trodAll_cons hA
  obtain ⟨rfl, rfl, rfl⟩ := trodAll_nil r0
  obtain rfl : args = #[v0] := by cases args; simp_all
  obtain ⟨rfl, rfl⟩ := trodVars_none hV
  have k0 := h0
  have lt0 : ∀ x ∈ p0, x.block < W.heap.size := by obtain ⟨m, hm⟩ := k0; exact DataW.trod_lt m _ _ _ hm
  obtain ⟨sq0_, sn0_, sk0_, sg0_, so0_, os0_, rfl, Z0_, U0_⟩ := open_script8 (hval 0 22 v0 rfl rfl) h0 (fun n hn => by simpa using List.all_eq_true.1 hsz n (DataW.weights_mem_each (j := 0) (t := 22) (by kernel_rfl) rfl n hn))
  clear hA0 hval0
  refine (walk sq0_ sn0_ sk0_ sg0_ so0_ os0_ Z0_ (Nat.le_trans U0_ (bulk_one hk))).mono fun e W' ⟨he, bel⟩ => ?_
  subst he
  exact ⟨_, rfl, _, _, _, [], _, [], hW', trodAll_mk1 (shut_bool Try.underlying4 _), (trodAll_cons_mk (Below.trod laidOut (by kernel_rfl) (of_decide_eq_true (by kernel_rfl)) k0 bel lt0) trodAll_mk0), rfl, bel.frame _, fun h => by cases h⟩

theorem over : Rows.PostCountsUptoSaid :=
  OpenClaim.holds_of_cond 4 Try.f4 rfl rfl rfl rfl rfl rfl rfl ⟨rfl, rfl, rfl, rfl, rfl⟩ rfl rfl rfl rfl rfl (by kernel_rfl) Try.func4 (by kernel_rfl)
    (of_decide_eq_true (by kernel_rfl)) (by unfold Func.isWrapper; first | (rw [if_pos (by decide +kernel)]; kernel_rfl) | (rw [if_neg (by decide +kernel)]; exact ⟨rfl, rfl⟩))
    (fun os started H enc _ FF => lifted os started H enc FF)

end Go.Proofs.Yteililgfjnoabaa.postCounts
namespace Go.Proofs.Yteililgfjnoabaa
theorem postCounts_upto : Rows.PostCountsUptoSaid := postCounts.over
#print axioms postCounts_upto
end Go.Proofs.Yteililgfjnoabaa
