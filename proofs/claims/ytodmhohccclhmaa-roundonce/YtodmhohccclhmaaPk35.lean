/-
  'good': which acts a chain's law takes.
-/
import Derived.Test.YtodmhohccclhmaaPk34
namespace Go.Proofs.Ytodmhohccclhmaa
open Go.RowKit
set_option linter.unusedVariables false
set_option maxRecDepth 100000
theorem w64_add {a b : Nat} (h : a ≤ 1000) (h' : b ≤ 1000) : wrap64 ((a : Int) + (b : Int)) = (a : Int) + (b : Int) := by unfold wrap64; omega
/-- 'good' -/
def GdE (n : Nat) (os : List AcD) (e : Ending) : Prop := ∃ b, e = .returned (.bool b) ∧ (b = true → n ≤ 400 ∧ ∀ x ∈ os, x.kd = 0 → gdG ⟨x.k, x.o, x.n⟩ = true)
set_option maxHeartbeats 1000000 in
theorem good_any11 (W : World) (q : Option Addr) (n cap g off : Nat) (os : List AcD) (Z : AcRow W q n cap g off os) :
    Calls Try.prog 10 #[.slice q n cap] W fun e w' => GdE n os e ∧ Below W.heap.size W w' := by
  have hZl := Z.len
  go_enter Try.func10, Try.ntmps10
  by_cases h4 : n ≤ 400
  · have i1 : ¬ (400 < (n : Int)) := by omega
    have i2 : ¬ (400 < n) := by omega
    go_wp2_with fail
    go_loopw [10] (fun iv wr => ∃ j : Nat, j ≤ n ∧ iv = .int .i64 (j : Int) ∧ (∀ x ∈ os.take j, x.kd = 0 → gdG ⟨x.k, x.o, x.n⟩ = true) ∧ Below W.heap.size W wr) (fun iv _ => n - (intOf iv).toNat)
    case atStart => exact ⟨0, by omega, rfl, fun x hx => (by cases hx), Below.refl _ _⟩
    case round =>
      obtain ⟨j, hj, rfl, hall, hb⟩ := hrel
      have HA : Hid (∀ x ∈ os.take j, x.kd = 0 → gdG ⟨x.k, x.o, x.n⟩ = true) := hall
      clear hall
      by_cases cj : j = n
      · have i9 : ¬ (j : Int) < (n : Int) := by omega
        have i10 : ¬ j < n := by omega
        have HJ : Hid (os.take j = os) := List.take_of_length_le (by omega)
        clear cj
        go_wp2_with fail
        go_ret
        exact ⟨⟨true, rfl, fun _ => ⟨h4, fun x hx => HA.out x (by rw [HJ.out]; exact hx)⟩⟩, hb⟩
      · have hjn : j < n := by omega
        have hji : (j : Int) < (n : Int) := by omega
        obtain ⟨⟨kd, wh, nm, k, vo, xo, vn, xn⟩, ho⟩ : ∃ o, os[j]? = some o := ⟨os[j]'(by omega), List.getElem?_eq_getElem _⟩
        have hg := Z.lt (by omega)
        obtain ⟨d0, d1, d2, d3, d4, d5, so, sn⟩ := (Z.row j _ ho).keep hg hb
        obtain rfl := Z.ptr (by omega)
        have hfit := Z.fits
        have hmx := Z.max
        dsimp only at d0 d1 d2 d3 d4 d5 so sn
        obtain ⟨q1, c1, e⟩ := so.form
        obtain ⟨q2, c2, e'⟩ := sn.form
        subst e
        subst e'
        obtain ⟨n1, hn1⟩ : ∃ n, xo.length = n := ⟨_, rfl⟩
        obtain ⟨n2, hn2⟩ : ∃ n, xn.length = n := ⟨_, rfl⟩
        rw [hn1] at d4
        rw [hn2] at d5
        have HT : Hid ((kd = 0 → gdC k n1 n2 = true) → ∀ x ∈ os.take (j + 1), x.kd = 0 → gdG ⟨x.k, x.o, x.n⟩ = true) := fun h x hx h0 => by
          rw [List.take_add_one, ho] at hx
          rcases List.mem_append.1 hx with e | e
          · exact HA.out x e h0
          · have e : x = ⟨kd, wh, nm, k, .slice q1 xo.length c1, xo, .slice q2 xn.length c2, xn⟩ := by simpa using e
            subst e
            have := h h0
            unfold gdG
            dsimp only
            rw [hn1, hn2]
            exact this
        clear so sn
        go_upto_region 6 with fail
        obtain ⟨V, hE, hO, hbV⟩ := blk1 wr #[.int .i64 kd, .int .i64 wh, .int .i64 nm, .int .i64 k, .slice q1 n1 c1, .slice q2 n2 c2] 52
        rw [show wr.alloc (.cells _ 52) = V from hE]
        clear hE d0 d1 d2 d3 d4 d5
        have y0 := hO.at (i := 0) rfl
        have y3 := hO.at (i := 3) rfl
        have y4 := hO.at (i := 4) rfl
        have y5 := hO.at (i := 5) rfl
        have hbb := ab_trans hb hbV
        obtain ⟨bad, hbad⟩ : ∃ b, (decide (kd = 0) && !gdC k n1 n2) = b := ⟨_, rfl⟩
        have HB : Hid ((decide (kd = 0) && !gdC k n1 n2) = bad) := hbad
        go_cut [60] from 14 to 59 (fun s wc => s = .bool bad ∧ wc = V)
        case first =>
          by_cases k0 : kd = 0
          · have z0 : (kd == 0) = true := by rw [k0]; rfl
            by_cases k1 : k = 1
            · subst k1
              by_cases a1 : 32 < n1
              · have a1i : 32 < (n1 : Int) := by omega
                have hf : bad = true := by rw [← hbad]; simp [gdC, k0]; try omega
                clear hbad
                try clear k0
                try clear k2
                subst hf
                go_wp2_with fail
                go_meet
                case rel => exact ⟨rfl, rfl⟩
              · have a1i : ¬ 32 < (n1 : Int) := by omega
                by_cases a2 : 32 < n2
                · have a2i : 32 < (n2 : Int) := by omega
                  have hf : bad = true := by rw [← hbad]; simp [gdC, k0]; try omega
                  clear hbad
                  try clear k0
                  try clear k2
                  subst hf
                  go_wp2_with fail
                  go_meet
                  case rel => exact ⟨rfl, rfl⟩
                · have a2i : ¬ 32 < (n2 : Int) := by omega
                  by_cases a3 : 0 < n1 + n2
                  · have a3i : 0 < (n1 : Int) + (n2 : Int) := by omega
                    have hf : bad = true := by rw [← hbad]; simp [gdC, k0]; try omega
                    clear hbad
                    try clear k0
                    try clear k2
                    subst hf
                    go_wp2_with fail
                    go_meet
                    case rel => exact ⟨rfl, rfl⟩
                  · have a3i : ¬ 0 < (n1 : Int) + (n2 : Int) := by omega
                    have hf : bad = false := by rw [← hbad]; simp [gdC, k0]; try omega
                    clear hbad
                    try clear k0
                    try clear k2
                    subst hf
                    go_wp2_with fail
                    go_meet
                    case rel => exact ⟨rfl, rfl⟩
            · have z1 : (k != 1) = true := by simp [k1]
              have z1' : (k == 1) = false := by simp [k1]
              by_cases k2 : k = 2
              · have z2 : (k != 2) = false := by rw [k2]; rfl
                by_cases a1 : 32 < n1
                · have a1i : 32 < (n1 : Int) := by omega
                  have hf : bad = true := by rw [← hbad]; simp [gdC, k0]; try omega
                  clear hbad
                  try clear k0
                  try clear k2
                  subst hf
                  go_wp2_with fail
                  go_meet
                  case rel => exact ⟨rfl, rfl⟩
                · have a1i : ¬ 32 < (n1 : Int) := by omega
                  by_cases a2 : 32 < n2
                  · have a2i : 32 < (n2 : Int) := by omega
                    have hf : bad = true := by rw [← hbad]; simp [gdC, k0]; try omega
                    clear hbad
                    try clear k0
                    try clear k2
                    subst hf
                    go_wp2_with fail
                    go_meet
                    case rel => exact ⟨rfl, rfl⟩
                  · have a2i : ¬ 32 < (n2 : Int) := by omega
                    have hf : bad = false := by rw [← hbad]; simp [gdC, k0]; try omega
                    clear hbad
                    try clear k0
                    try clear k2
                    subst hf
                    go_wp2_with fail
                    go_meet
                    case rel => exact ⟨rfl, rfl⟩
              · have z2 : (k != 2) = true := by simp [k2]
                have hf : bad = true := by rw [← hbad]; simp [gdC, k0]; try omega
                clear hbad
                try clear k0
                try clear k2
                subst hf
                go_wp2_with fail
                go_meet
                case rel => exact ⟨rfl, rfl⟩
          · have z0 : (kd == 0) = false := by simp [k0]
            have hf : bad = false := by rw [← hbad]; simp [gdC, k0]; try omega
            clear hbad
            try clear k0
            try clear k2
            subst hf
            go_wp2_with fail
            go_meet
            case rel => exact ⟨rfl, rfl⟩
        case rest =>
          obtain ⟨rfl, hV⟩ := hcut
          subst wc
          clear hbad
          try clear k0
          try clear k2
          cases bad
          · go_wp2_with fail
            exact ⟨⟨j + 1, by omega, rfl, HT.out (fun h => by have := HB.out; rw [h] at this; simpa using this), hbb⟩, by simp only [intOf]; omega⟩
          · go_wp2_with fail
            go_ret
            exact ⟨⟨false, rfl, fun h => (by cases h)⟩, hbb⟩
  · have i1 : 400 < (n : Int) := by omega
    have i2 : 400 < n := by omega
    go_wp2_with fail
    go_ret
    exact ⟨⟨false, rfl, fun h => (by cases h)⟩, Below.refl _ _⟩
end Go.Proofs.Ytodmhohccclhmaa
