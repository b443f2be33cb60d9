/-
  A diary on a tape that is up; estuarylaw07.alive.
-/
import Derived.Test.YtalbiggmmmkclaaDyD
import Derived.Test.YtalbiggmmmkclaaTpG
namespace Go.Proofs.Ytalbiggmmmkclaa
open Go.RowKit
set_option linter.unusedVariables false
set_option maxRecDepth 100000

/-- Rows that fit. -/
def Rok (rs : List (List Nat)) : Prop := ∀ r ∈ rs, r.length ≤ 16376 ∧ Byt r
theorem Rok.len {rs : List (List Nat)} (h : Rok rs) : ∀ r ∈ rs, r.length ≤ 16376 := fun r hr => (h r hr).1
theorem Rok.byt {rs : List (List Nat)} (h : Rok rs) : ∀ r ∈ rs, Byt r := fun r hr => (h r hr).2
theorem Rok.nil : Rok [] := fun r hr => by cases hr
theorem Rok.snoc {rs : List (List Nat)} {m : List Nat} (h : Rok rs) (hm : m.length ≤ 16376) (hb : Byt m) : Rok (rs ++ [m]) := fun r hr => by
  rcases List.mem_append.1 hr with h1 | h1
  · exact h r h1
  · simp at h1; subst h1; exact ⟨hm, hb⟩
theorem dopen_up (base b : Nat) (v : Value) (rs : List (List Nat)) (s n : Nat) (w : World) (hT : Tp w base b v (up (frms rs) s n)) (hst : n < 4611686018427387000) (hrs : Rok rs) :
    Calls Try.prog 12 #[tptr b] w fun e w' => ∃ d q c vs v', e = .returned (.tuple #[tptr d, .slice q rs.length c, .nilIface]) ∧ w.heap.size ≤ d ∧ Blk w' d (dcs b rs.length (spN rs)) 80 ∧ Lis w' w.heap.size (.slice q rs.length c) vs rs ∧ Tp w' base b v' (up (frms rs) s n) ∧ Mv b w w' v v' := by
  refine (dopen_any base b v _ w hT hst (frms_byt hrs.byt)).mono ?_
  obtain ⟨h1, h2⟩ := op_up rs hrs.len s n
  rintro e w' ⟨⟨-, h3⟩, v', h4, h5⟩
  rw [h2] at h4
  obtain ⟨d, vl, vs, he, hd, hB, hL⟩ := h3 h1
  have e1 : spt (up (frms rs) s n).l = rs := spt_frms rs hrs.len
  rw [e1] at hB hL
  obtain ⟨q, c, e2, -⟩ := hL.ls.row
  rw [hL.ls.len] at e2
  subst e2
  exact ⟨d, q, c, vs, v', he, hd, hB, hL, h4, h5⟩
theorem dadd_up (base b d nr ns : Nat) (v x : Value) (l m : List Nat) (s n : Nat) (w : World) (hT : Tp w base b v (up l s n)) (hst : n < 4611686018427387000) (hD : Blk w d (dcs b nr ns) 80) (hx : Sl w x m) (hb : Byt m) (hm : m.length ≤ 16376) (hnr : nr ≤ 4611686018427387904) (hns : ns ≤ 4611686018427387904) (hfit : l.length + (8 + m.length) ≤ 1048576) :
    Calls Try.prog 16 #[tptr d, x] w fun e w' => e = .returned .nilIface ∧ ∃ v', Tp w' base b v' (up (l ++ frm m) (l.length + (8 + m.length)) (n + 2)) ∧ Mw b d w w' v v' ∧ Blk w' d (dcs b (nr + 1) (ns + (8 + m.length))) 80 := by
  obtain ⟨h1, h2⟩ := wr_up l (frm m) s n (by rw [frm_len]; exact hfit)
  refine (dadd_any base b d nr ns v x m _ w hT hst hD hx hb hm hnr hns).mono ?_
  rw [h1, h2, List.length_append, frm_len]
  rintro e w' ⟨rfl, v', h3, h4, h5, -⟩
  exact ⟨rfl, v', h3, h4, h5 rfl⟩
theorem Mw.blk {W W' : World} {b d : Nat} {v v' : Value} {k : Nat} {xs : Array Value} {t : TypeId} (m : Mw b d W W' v v') (h : Blk W k xs t) (h1 : k ≠ b) (h2 : k ≠ d) (h3 : v.ownBlock ≠ some k) : Blk W' k xs t := by
  unfold Blk
  rw [m.other k h.lt h1 h2 h3]
  exact h
theorem str_a : strB [97] = ⟨#[97]⟩ := by decide +kernel
theorem str_b : strB [98] = ⟨#[98]⟩ := by decide +kernel
theorem byt_a : Byt [97] := by intro x hx; simp at hx; omega
theorem byt_b : Byt [98] := by intro x hx; simp at hx; omega
abbrev tsA : TS := ⟨frm [97], 9, 2, true, 1, false, 0, false⟩
theorem alv_N : wrN tsA (frm [98]) = 5 := by decide +kernel
theorem alv_S : crS (wrS tsA (frm [98])) 100 = up (frms [[97], [98]]) 18 3 := by kernel_rfl
theorem rok_ab : Rok [[97], [98]] := by
  intro r hr
  simp at hr
  rcases hr with rfl | rfl
  · exact ⟨by decide, byt_a⟩
  · exact ⟨by decide, byt_b⟩
set_option maxHeartbeats 2000000 in
theorem alive7_any (w : World) : Calls Try.prog 9 #[] w fun e w' => e = .returned (.bool true) ∧ Below w.heap.size w w' := by
  have HX : Hid (strB [97] = ⟨#[97]⟩) := str_a
  have HY : Hid (strB [98] = ⟨#[98]⟩) := str_b
  have n55 : ∀ w, (binOp .neq 33 (Err 5) (Err 5)).run Try.prog w = .ok (.bool false) w := fun w => by kernel_rfl
  have n00 := ne00
  have e00 := eq00
  go_enter Try.func9, Try.ntmps9
  go_upto_region 3 with (first
    | (go_at_call 11; refine (new_any _).mono ?_; rintro e W1 ⟨rfl, h1, b1⟩)
    | (go_at_call 12; refine (dopen_up _ _ _ [] 0 0 _ h1 (by omega) Rok.nil).mono ?_; rintro e W2 ⟨d, q2, c2, vs2, v2, rfl, hd2, hD2, L2, h2, m2⟩))
  have bw2 := b1.trans (h1.below m2)
  clear L2 m2 h1
  go_wp2_with (first
    | (refine bs_by rfl rfl [97] (vs := #[(0, .int .u8 97)]) (by simp only [List.map_toArray, List.map_cons, List.map_nil]; rfl) (bsb1 97 _) rfl (by decide) ?_; intro W3 n3 b3 z3; clear z3)
    | (refine cv_t rfl rfl rfl n3 ?_; intro X3 s3 k3; have c3 := below_mark b3 k3; have h3 := h2.keep c3; have hD3 := hD2.keep c3))
  refine (dadd_up _ _ _ _ _ _ _ _ _ _ _ _ h3 (by omega) hD3 s3 byt_a (by decide) (by decide) (by decide) (by decide)).mono ?_
  rintro e W4 ⟨rfl, v4, h4, m4, hD4⟩
  have hwd : w.heap.size ≤ d := Nat.le_trans b1.size hd2
  have bw4 := (ab_trans bw2 c3).trans (m4.below h3 hwd)
  have h4' : Tp W4 w.heap.size w.heap.size v4 (up (frm [97]) 9 2) := h4
  have hD4' : Blk W4 d (dcs w.heap.size 1 9) 80 := hD4
  clear m4 h4 hD4 h3 hD3 s3 k3 c3 n3 b3 h2 hD2 bw2
  go_wp2_with fail
  refine (arm_ok _ _ _ _ 1 _ h4' (by omega)).mono ?_
  rintro e W5 ⟨rfl, h5, m5⟩
  have hD5 := hD4'.mv h4' m5 (by decide) (by decide)
  have bw5 := bw4.trans (h4'.below m5)
  have h5' : Tp W5 w.heap.size w.heap.size v4 tsA := h5
  clear m5 h4' hD4' h5 bw4
  go_wp2_with (first
    | (refine bs_by rfl rfl [98] (vs := #[(0, .int .u8 98)]) (by simp only [List.map_toArray, List.map_cons, List.map_nil]; rfl) (bsb1 98 _) rfl (by decide) ?_; intro W6 n6 b6 z6; clear z6)
    | (refine cv_t rfl rfl rfl n6 ?_; intro X6 s6 k6; have c6 := below_mark b6 k6; have h6 := h5'.keep c6; have hD6 := hD5.keep c6))
  refine (dadd_any _ _ _ _ _ _ _ _ _ _ h6 (by decide) hD6 s6 byt_b (by decide) (by decide) (by decide)).mono ?_
  rw [alv_N, show errV 5 = Err 5 from rfl]
  rintro e W7 ⟨rfl, v7, h7, m7, -, -⟩
  have bw7 := (ab_trans bw5 c6).trans (m7.below h6 hwd)
  clear m7 h6 hD6 s6 k6 c6 n6 b6 h5' hD5 bw5
  go_upto_region 6 with (go_at_call 25; refine (crash_any _ _ _ _ 100 _ h7 (by omega)).mono ?_; rw [alv_S]; rintro e W8 ⟨rfl, v8, h8, m8⟩)
  have bw8 := bw7.trans (h7.below m8)
  clear m8 h7 bw7
  go_upto_region 7 with (go_at_call 12; refine (dopen_up _ _ _ [[97], [98]] 18 3 _ h8 (by omega) rok_ab).mono ?_; rintro e W9 ⟨d9, q9, c9, vs9, v9, rfl, -, -, L9, h9, m9⟩)
  have bw9 := bw8.trans (h8.below m9)
  clear m9 h8 bw8 h9
  obtain ⟨qq, cap, g, off, ee, -, -, hp, -, hr⟩ := L9.ls.open
  have hlen := L9.ls.len
  obtain ⟨x0, x1, ex⟩ : ∃ x0 x1, vs9 = [x0, x1] := by
    match vs9, hlen with
    | [x0, x1], _ => exact ⟨x0, x1, rfl⟩
  subst ex
  cases ee
  obtain rfl := hp (by decide)
  have r0 := hr 0 x0 rfl
  have r1 := hr 1 x1 rfl
  rw [Nat.add_zero] at r0
  have t0 := L9.ls.each 0 x0 [97] rfl rfl
  have t1 := L9.ls.each 1 x1 [98] rfl rfl
  obtain ⟨q0, n0, k0, e0⟩ := t0.slice
  obtain ⟨q1, n1, k1, e1⟩ := t1.slice
  subst e0
  subst e1
  have a0 := sl_str t0
  have a1 := sl_str t1
  rw [HX.out] at a0
  rw [HY.out] at a1
  clear L9 hr t0 t1 hlen
  go_wp2_with fail
  go_ret
  exact ⟨rfl, bw9⟩
end Go.Proofs.Ytalbiggmmmkclaa
