/- When no more lives than the capacity, and at most so many segments as the reserve are free, and one is the head, some other segment has something dead. For every input, no condition. -/
import Derived.Test.YtiolhdilfjomcaaChBoth
import Derived.Lib.SmallJoins
import Derived.Deep.CutBlock
import Derived.Deep.DeepCutAuto
namespace Go.Proofs.Ytiolhdilfjomcaa.chooserSpread
open Go.ChangeShapes Go.WideShapes Go.ChangeAt Go.RowKit

theorem u8_in {a : Int} (h : (Lit.int .u8 a).wf = true) : 0 ≤ a ∧ a ≤ 255 := by
  simpa [Lit.wf, IntKind.min, IntKind.max, IntKind.signed, IntKind.bits] using h

/-- How much lives in the first i segments: what is asked for, and no more than there is room. -/
def tot (c : Nat → Int) (most : Int) : Nat → Int
  | 0 => 0
  | i + 1 => if most < tot c most i + c i then most else tot c most i + c i
/-- How much lives in segment i. -/
def liv (c : Nat → Int) (most : Int) (i : Nat) : Int := if most < tot c most i + c i then most - tot c most i else c i
/-- How many of the first i are free, but h. -/
def emp (c : Nat → Int) (most : Int) (h : Nat) : Nat → Nat
  | 0 => 0
  | i + 1 => if liv c most i = 0 ∧ i ≠ h then emp c most h i + 1 else emp c most h i

section
variable {c : Nat → Int} {most b : Int} {h : Nat}
theorem tot_next (i : Nat) : tot c most (i + 1) = tot c most i + liv c most i := by
  rw [tot, liv]
  split <;> omega
theorem tot_in (hm : 0 ≤ most) (hc : ∀ i, 0 ≤ c i ∧ c i ≤ b) (i : Nat) : 0 ≤ tot c most i ∧ tot c most i ≤ most := by
  induction i with
  | zero => exact ⟨Int.le_refl _, hm⟩
  | succ i ih =>
    rw [tot]
    have := hc i
    split <;> omega
theorem liv_in (hm : 0 ≤ most) (hc : ∀ i, 0 ≤ c i ∧ c i ≤ b) (i : Nat) : 0 ≤ liv c most i ∧ liv c most i ≤ b := by
  have h1 := tot_in hm hc i
  have h2 := hc i
  unfold liv
  split <;> omega
theorem emp_le (i : Nat) : emp c most h i ≤ i := by
  induction i with
  | zero => exact Nat.le_refl _
  | succ i ih => rw [emp]; split <;> omega
/-- If no segment but h has both something dead and something live: all but those that are free, and h, are full. -/
theorem full (hm : 0 ≤ most) (hc : ∀ i, 0 ≤ c i ∧ c i ≤ b) (n : Nat) (hno : ∀ i, i < n → i ≠ h → ¬ (0 < liv c most i ∧ liv c most i < b)) :
    b * (n : Int) ≤ tot c most n + b * (emp c most h n : Int) + (if h < n then b else 0) := by
  induction n with
  | zero => simp [tot, emp]
  | succ n ih =>
    have h1 := ih fun i hi => hno i (by omega)
    have h2 := liv_in hm hc n
    have h3 := hno n (by omega)
    have e : b * ((n + 1 : Nat) : Int) = b * (n : Int) + b := by rw [Int.natCast_add, Int.mul_add]; simp
    have e2 : b * ((emp c most h n + 1 : Nat) : Int) = b * (emp c most h n : Int) + b := by rw [Int.natCast_add, Int.mul_add]; simp
    rw [e, tot_next, emp]
    by_cases hn : n = h
    · rw [if_neg (by omega)] at h1
      rw [if_neg (by omega), if_pos (by omega)]
      omega
    · have h4 := h3 hn
      have hi : (if h < n + 1 then b else 0) = (if h < n then b else 0) := by
        by_cases h5 : h < n
        · rw [if_pos h5, if_pos (by omega)]
        · rw [if_neg h5, if_neg (by omega)]
      rw [hi]
      by_cases hz : liv c most n = 0
      · rw [if_pos ⟨hz, hn⟩, e2]
        omega
      · rw [if_neg (by omega)]
        omega
/-- So one has. -/
theorem found {n : Nat} (hb : 2 ≤ b) (hn : 6 ≤ n) (hmost : most = ((n : Int) - 4) * b) (hc : ∀ i, 0 ≤ c i ∧ c i ≤ b) (he : emp c most h n ≤ 2) :
    ∃ i, i < n ∧ i ≠ h ∧ 0 < liv c most i ∧ liv c most i < b := by
  have hm : 0 ≤ most := by rw [hmost]; exact Int.mul_nonneg (by omega) (by omega)
  apply Classical.byContradiction
  intro hno
  have h1 := full (h := h) hm hc n (fun i hi hh hl => hno ⟨i, hi, hh, hl.1, hl.2⟩)
  have h2 := (tot_in hm hc n).2
  have h3 : b * (emp c most h n : Int) ≤ b * 2 := Int.mul_le_mul_of_nonneg_left (by omega) (by omega)
  have h4 : (if h < n then b else 0) ≤ b := by split <;> omega
  have h5 : ((n : Int) - 4) * b = b * (n : Int) - 4 * b := by rw [Int.sub_mul, Int.mul_comm]
  omega
end

theorem cell_far {w : World} {p a : Addr} (u : Value) (h : a.block ≠ p.block) : (w.setCell p u).cell? a = w.cell? a := World.cell?_of_block (Below.heap_setCell w p u a.block h)

/-! Where the ages' zeros and the head lie: the zeros are made ahead of the head's slice, or behind it. -/
section
variable (w : World) (n h : Nat)
theorem ahead_below : Below w.heap.size w ((w.alloc (.cells (intsOf (fun _ => 0) n).toArray 3)).alloc (.cells #[.int .i64 (h : Int)] 3)).drew := ((boxed _ _).alloc (by simp) _).drew
theorem behind_below : Below w.heap.size w ((w.alloc (.cells #[.int .i64 (h : Int)] 3)).alloc (.cells (intsOf (fun _ => 0) n).toArray 3)).drew := ((boxed _ _).alloc (by simp) _).drew
theorem ahead_zeros : IntsAt ((w.alloc (.cells (intsOf (fun _ => 0) n).toArray 3)).alloc (.cells #[.int .i64 (h : Int)] 3)).drew (some ⟨w.heap.size, 0, none⟩) n (fun _ => 0) :=
  ((made_ints w n).ints fun _ _ => by omega).below (boxed _ _).drew
theorem behind_zeros : IntsAt ((w.alloc (.cells #[.int .i64 (h : Int)] 3)).alloc (.cells (intsOf (fun _ => 0) n).toArray 3)).drew (some ⟨w.heap.size + 1, 0, none⟩) n (fun _ => 0) := by
  have := ((made_ints (w.alloc (.cells #[.int .i64 (h : Int)] 3)) n).ints fun _ _ => by omega).below ((Below.refl _ _).drew)
  simpa using this
theorem ahead_head (hh : h ≤ 255) : IntsAt ((w.alloc (.cells (intsOf (fun _ => 0) n).toArray 3)).alloc (.cells #[.int .i64 (h : Int)] 3)).drew (some ⟨w.heap.size + 1, 0, none⟩) 1 (fun _ => (h : Int)) := by
  have := (int_new (w.alloc (.cells (intsOf (fun _ => 0) n).toArray 3)) (h : Int) ⟨by omega, by omega⟩).below ((Below.refl _ _).drew)
  simpa using this
theorem behind_head (hh : h ≤ 255) : IntsAt ((w.alloc (.cells #[.int .i64 (h : Int)] 3)).alloc (.cells (intsOf (fun _ => 0) n).toArray 3)).drew (some ⟨w.heap.size, 0, none⟩) 1 (fun _ => (h : Int)) :=
  (int_new w (h : Int) ⟨by omega, by omega⟩).below (boxed _ _).drew
end

set_option maxRecDepth 20000 in
set_option maxHeartbeats 4000000 in
theorem text {n bb sg bl hd hh : Nat} {A : Option Addr} {m ca : Nat} {C : Nat → Nat} (w : World) (h1 : sg ≤ 255) (h2 : bl ≤ 255) (h3 : hd ≤ 255) (en : 6 + (sg : Int) % 19 = (n : Int)) (eb : 2 + (bl : Int) % 15 = (bb : Int)) (eh : (hd : Int) % (n : Int) = (hh : Int))
    (H : BytesAt w A m C) (hm : m ≤ 9223372036854775807) :
    Calls Try.prog 6 #[.int .u8 (sg : Int), .int .u8 (bl : Int), .slice A m ca, .int .u8 (hd : Int)] w (Fresh (.bool true) w) := by
  have hn : 6 ≤ n ∧ n ≤ 24 := by omega
  have hb : 2 ≤ bb ∧ bb ≤ 16 := by omega
  have hmk := make_ints n (by omega)
  obtain ⟨most, em⟩ : ∃ most : Int, ((n : Int) - 4) * (bb : Int) = most := ⟨_, rfl⟩
  have hmost : 0 ≤ most ∧ most ≤ 320 := by
    rw [← em]
    exact ⟨Int.mul_nonneg (by omega) (by omega), show ((n : Int) - 4) * (bb : Int) ≤ 20 * 16 from Int.mul_le_mul (by omega) (by omega) (by omega) (by omega)⟩
  have H0 := Lib.hid H
  clear H
  have hn1 := hn.1
  have hn2 := hn.2
  have hb1 := hb.1
  have hb2 := hb.2
  have hnz : ¬ (n : Int) = 0 := by omega
  have hh3 : hh ≤ 255 := by
    have := Int.emod_lt_of_pos (hd : Int) (show (0 : Int) < (n : Int) by omega)
    omega
  go_enter Try.func6, Try.ntmps6
  go_wp2
  rw [eh]
  obtain ⟨c, ec⟩ : ∃ c : Nat → Int, c = fun t => if t < m then ((C t % (bb + 1) : Nat) : Int) else 0 := ⟨_, rfl⟩
  obtain ⟨w1, hw1⟩ : ∃ w1, w1 = (w.alloc (.cells #[.int .i64 (n : Int), .int .i64 (bb : Int)] 23)).alloc (.cells (intsOf (fun _ => 0) n).toArray 3) := ⟨_, rfl⟩
  have hb1' : Below w.heap.size w w1 := by rw [hw1]; exact (boxed _ _).alloc (by simp) _
  have k0 : w1.cell? ⟨w.heap.size, 0, none⟩ = some (.int .i64 (n : Int)) := by rw [hw1]; exact geo_s (boxed _ _)
  have k1 : w1.cell? ⟨w.heap.size, 1, none⟩ = some (.int .i64 (bb : Int)) := by rw [hw1]; exact geo_b (boxed _ _)
  have kl : IntsLie w1 (w.heap.size + 1) (fun t => if t < 0 then liv c most t else 0) n := by
    rw [hw1]
    have := made_ints (w.alloc (.cells #[.int .i64 (n : Int), .int .i64 (bb : Int)] 23)) n
    simpa using this
  rw [← hw1]
  have EC := Lib.hid ec
  have EN := Lib.hid en
  have EM := Lib.hid em
  have EB := Lib.hid hb1'
  have K0 := Lib.hid k0
  have K1 := Lib.hid k1
  have KL := Lib.hid kl
  have HC : Hid (∀ i, 0 ≤ c i ∧ c i ≤ (bb : Int)) := Lib.hid fun i => by
    rw [ec]
    show 0 ≤ (if i < m then ((C i % (bb + 1) : Nat) : Int) else 0) ∧ (if i < m then ((C i % (bb + 1) : Nat) : Int) else 0) ≤ (bb : Int)
    have := Nat.mod_lt (C i) (show 0 < bb + 1 by omega)
    split <;> omega
  clear hmk hw1 ec en eb eh em hb1' k0 k1 kl hn hb hnz h1 h2 h3
  go_loopw [11, 12, 15] (fun s e x wr => ∃ i : Nat, i ≤ n ∧ x = .int .i64 (i : Int) ∧ s = .int .i64 (tot c most i) ∧ e = .int .i64 (emp c most hh i : Int) ∧ IntsLie wr (w.heap.size + 1) (fun t => if t < i then liv c most t else 0) n ∧
    wr.cell? ⟨w.heap.size, 0, none⟩ = some (.int .i64 (n : Int)) ∧ wr.cell? ⟨w.heap.size, 1, none⟩ = some (.int .i64 (bb : Int)) ∧ Below w.heap.size w wr) (fun _ _ x _ => n - (intOf x).toNat)
  case atStart => exact ⟨0, by omega, rfl, rfl, rfl, KL.out, K0.out, K1.out, EB.out⟩
  case round =>
    clear K0 K1 KL EB
    obtain ⟨i, hi, rfl, rfl, rfl, hl, c0, c1, hb⟩ := hrel
    have HL := Lib.hid hl
    have HB := Lib.hid hb
    clear hl hb
    by_cases hin : i < n
    · by_cases him : i < m
      · obtain ⟨ad, rfl⟩ := H0.out.addr (by omega)
        have ha := cell_later HB.out (H0.out.at_ him)
        have hx := H0.out.small i him
        obtain ⟨x, ex⟩ : ∃ x, x = C i := ⟨_, rfl⟩
        rw [← ex] at ha hx
        have EX := Lib.hid ex
        obtain ⟨z, ez⟩ : ∃ z : Int, z = (x : Int) % ((bb : Int) + 1) := ⟨_, rfl⟩
        have hzb : 0 ≤ z ∧ z ≤ bb := by rw [ez]; exact ⟨Int.emod_nonneg _ (by omega), by have := Int.emod_lt_of_pos (x : Int) (show (0 : Int) < (bb : Int) + 1 by omega); omega⟩
        have q1 : (x : Int).tmod ((bb : Int) + 1) = z := by rw [Int.tmod_eq_emod_of_nonneg (by omega), ez]
        have q2 : (x : Int) % ((bb : Int) + 1) = z := ez.symm
        have q3 : ¬ ((bb : Int) + 1 = 0) := by omega
        have Z5 : Hid (c i = z) := Lib.hid (by rw [EC.out]; show (if i < m then ((C i % (bb + 1) : Nat) : Int) else 0) = z; rw [if_pos him, ← EX.out, ez]; rfl)
        have hz := HL.out.cell hin
        have hf := HL.out.free i
        clear ex ez
        go_wp2
        go_region
        clear hz q1 q2 q3 ha
        have hl5 : IntsLie (wr.setCell ⟨w.heap.size + 1, i, none⟩ (.int .i64 z)) (w.heap.size + 1) (fun t => if t < i then liv c most t else if t = i then z else 0) n :=
          HL.out.set_ hin (by rw [if_neg (by omega), if_pos rfl]) (fun t ht => by rw [if_neg ht])
        have hb5 : Below w.heap.size w (wr.setCell ⟨w.heap.size + 1, i, none⟩ (.int .i64 z)).drew := (HB.out.setCell (by show w.heap.size ≤ w.heap.size + 1; omega) _).drew
        have e0 : (wr.setCell ⟨w.heap.size + 1, i, none⟩ (.int .i64 z)).drew.cell? ⟨w.heap.size, 0, none⟩ = some (.int .i64 (n : Int)) := by show (wr.setCell _ _).cell? _ = _; rw [cell_far _ (by simp)]; exact c0
        have e1 : (wr.setCell ⟨w.heap.size + 1, i, none⟩ (.int .i64 z)).drew.cell? ⟨w.heap.size, 1, none⟩ = some (.int .i64 (bb : Int)) := by show (wr.setCell _ _).cell? _ = _; rw [cell_far _ (by simp)]; exact c1
        have hl5' : IntsLie (wr.setCell ⟨w.heap.size + 1, i, none⟩ (.int .i64 z)).drew (w.heap.size + 1) (fun t => if t < i then liv c most t else if t = i then z else 0) n := hl5
        clear hl5 hf c0 c1
        generalize (wr.setCell ⟨w.heap.size + 1, i, none⟩ (.int .i64 z)).drew = w5 at e0 e1 hl5' hb5 ⊢
        have c0 := e0
        have c1 := e1
        clear e0 e1
        have hz := hl5'.cell hin
        rw [if_neg (by omega), if_pos rfl] at hz
        have hf := hl5'.free i
        have HL5 := Lib.hid hl5'
        have HB5 := Lib.hid hb5
        obtain ⟨z0, z1⟩ := hzb
        clear hl5' hb5
        have hT := tot_in (c := c) (b := (bb : Int)) hmost.1 HC.out i
        obtain ⟨T, eT⟩ : ∃ T, T = tot c most i := ⟨_, rfl⟩
        have hE := emp_le (c := c) (most := most) (h := hh) i
        obtain ⟨E, eE⟩ : ∃ E, E = emp c most hh i := ⟨_, rfl⟩
        rw [← eT] at hT
        rw [← eE] at hE
        rw [← eT, ← eE]
        obtain ⟨t0, t1⟩ := hT
        have ET := Lib.hid eT
        have EE := Lib.hid eE
        clear eT eE
        by_cases hov : most < T + z
        · have LV : Hid (liv c most i = most - T) := Lib.hid (by unfold liv; rw [← ET.out, Z5.out, if_pos hov])
          have hl6 : IntsLie (w5.setCell ⟨w.heap.size + 1, i, none⟩ (.int .i64 (most - T))) (w.heap.size + 1) (fun t => if t < i + 1 then liv c most t else 0) n :=
            HL5.out.set_ hin (by rw [if_pos (by omega), LV.out]) (fun t ht => by
              by_cases h1 : t < i
              · rw [if_pos h1, if_pos (by omega)]
              · rw [if_neg h1, if_neg ht, if_neg (by omega)])
          have hz6 : (w5.setCell ⟨w.heap.size + 1, i, none⟩ (.int .i64 (most - T))).cell? ⟨w.heap.size + 1, i, none⟩ = some (.int .i64 (most - T)) := by
            rw [hl6.cell hin, if_pos (by omega), LV.out]
          have B6 : Hid (Below w.heap.size w (w5.setCell ⟨w.heap.size + 1, i, none⟩ (.int .i64 (most - T)))) := Lib.hid (HB5.out.setCell (by show w.heap.size ≤ w.heap.size + 1; omega) _)
          have k0 : Hid ((w5.setCell ⟨w.heap.size + 1, i, none⟩ (.int .i64 (most - T))).cell? ⟨w.heap.size, 0, none⟩ = some (.int .i64 (n : Int))) := Lib.hid (by rw [cell_far _ (by simp)]; exact c0)
          have k1 : Hid ((w5.setCell ⟨w.heap.size + 1, i, none⟩ (.int .i64 (most - T))).cell? ⟨w.heap.size, 1, none⟩ = some (.int .i64 (bb : Int))) := Lib.hid (by rw [cell_far _ (by simp)]; exact c1)
          have L6 := Lib.hid hl6
          clear hl6
          by_cases hl0 : most - T = 0
          · have d0 : (most - T == 0) = true := by simp [hl0]
            by_cases hih : i = hh
            · have d1 : ((i : Int) != (hh : Int)) = false := by simp [hih]
              have EN1 : Hid (emp c most hh (i + 1) = E) := Lib.hid (by rw [emp, if_neg (by rw [LV.out]; omega), EE.out])
              clear hl0 hih
              go_wp2
              clear hz6 hz hf c0 c1 d0 d1
              go_roundw
              case rel => exact ⟨i + 1, by omega, by go_num, by rw [tot_next, ← ET.out, LV.out], by rw [EN1.out], L6.out, k0.out, k1.out, B6.out⟩
              case measure => simp [intOf]; omega
            · have d1 : ((i : Int) != (hh : Int)) = true := by simp; omega
              have EN1 : Hid (emp c most hh (i + 1) = E + 1) := Lib.hid (by rw [emp, if_pos (by rw [LV.out]; omega), EE.out])
              clear hl0 hih
              go_wp2
              clear hz6 hz hf c0 c1 d0 d1
              go_roundw
              case rel => exact ⟨i + 1, by omega, by go_num, by rw [tot_next, ← ET.out, LV.out], by rw [EN1.out]; go_num, L6.out, k0.out, k1.out, B6.out⟩
              case measure => simp [intOf]; omega
          · have d0 : (most - T == 0) = false := by simp; omega
            have EN1 : Hid (emp c most hh (i + 1) = E) := Lib.hid (by rw [emp, if_neg (by rw [LV.out]; omega), EE.out])
            clear hl0
            go_wp2
            clear hz6 hz hf c0 c1 d0
            go_roundw
            case rel => exact ⟨i + 1, by omega, by go_num, by rw [tot_next, ← ET.out, LV.out], by rw [EN1.out], L6.out, k0.out, k1.out, B6.out⟩
            case measure => simp [intOf]; omega
        · have LV : Hid (liv c most i = z) := Lib.hid (by unfold liv; rw [← ET.out, Z5.out, if_neg hov])
          have L6 : Hid (IntsLie w5 (w.heap.size + 1) (fun t => if t < i + 1 then liv c most t else 0) n) := Lib.hid (HL5.out.congr fun t ht => by
            by_cases h1 : t < i
            · rw [if_pos h1, if_pos (by omega)]
            · by_cases h2 : t = i
              · rw [if_neg h1, if_pos h2, if_pos (by omega), h2, LV.out]
              · rw [if_neg h1, if_neg h2, if_neg (by omega)])
          have k0 := Lib.hid c0
          have k1 := Lib.hid c1
          by_cases hl0 : z = 0
          · have d0 : (z == 0) = true := by simp [hl0]
            by_cases hih : i = hh
            · have d1 : ((i : Int) != (hh : Int)) = false := by simp [hih]
              have EN1 : Hid (emp c most hh (i + 1) = E) := Lib.hid (by rw [emp, if_neg (by rw [LV.out]; omega), EE.out])
              clear hl0 hih
              go_wp2
              clear hz hf c0 c1 d0 d1
              go_roundw
              case rel => exact ⟨i + 1, by omega, by go_num, by rw [tot_next, ← ET.out, LV.out], by rw [EN1.out], L6.out, k0.out, k1.out, HB5.out⟩
              case measure => simp [intOf]; omega
            · have d1 : ((i : Int) != (hh : Int)) = true := by simp; omega
              have EN1 : Hid (emp c most hh (i + 1) = E + 1) := Lib.hid (by rw [emp, if_pos (by rw [LV.out]; omega), EE.out])
              clear hl0 hih
              go_wp2
              clear hz hf c0 c1 d0 d1
              go_roundw
              case rel => exact ⟨i + 1, by omega, by go_num, by rw [tot_next, ← ET.out, LV.out], by rw [EN1.out]; go_num, L6.out, k0.out, k1.out, HB5.out⟩
              case measure => simp [intOf]; omega
          · have d0 : (z == 0) = false := by simp; omega
            have EN1 : Hid (emp c most hh (i + 1) = E) := Lib.hid (by rw [emp, if_neg (by rw [LV.out]; omega), EE.out])
            clear hl0
            go_wp2
            clear hz hf c0 c1 d0
            go_roundw
            case rel => exact ⟨i + 1, by omega, by go_num, by rw [tot_next, ← ET.out, LV.out], by rw [EN1.out], L6.out, k0.out, k1.out, HB5.out⟩
            case measure => simp [intOf]; omega
      · obtain ⟨z, ez⟩ : ∃ z : Int, z = 0 := ⟨_, rfl⟩
        obtain ⟨z0, z1⟩ : 0 ≤ z ∧ z ≤ bb := by omega
        have Z5 : Hid (c i = z) := Lib.hid (by rw [EC.out]; show (if i < m then ((C i % (bb + 1) : Nat) : Int) else 0) = z; rw [if_neg him, ez])
        have hl5 : IntsLie wr (w.heap.size + 1) (fun t => if t < i then liv c most t else if t = i then z else 0) n := HL.out.congr fun t _ => by
          by_cases h1 : t < i
          · rw [if_pos h1, if_pos h1]
          · rw [if_neg h1, if_neg h1, ez]; split <;> rfl
        have hz := hl5.cell hin
        rw [if_neg (by omega), if_pos rfl] at hz
        have hf := hl5.free i
        have HL5 := Lib.hid hl5
        have HB5 := HB
        clear hl5 ez
        have hT := tot_in (c := c) (b := (bb : Int)) hmost.1 HC.out i
        obtain ⟨T, eT⟩ : ∃ T, T = tot c most i := ⟨_, rfl⟩
        have hE := emp_le (c := c) (most := most) (h := hh) i
        obtain ⟨E, eE⟩ : ∃ E, E = emp c most hh i := ⟨_, rfl⟩
        rw [← eT] at hT
        rw [← eE] at hE
        rw [← eT, ← eE]
        obtain ⟨t0, t1⟩ := hT
        have ET := Lib.hid eT
        have EE := Lib.hid eE
        clear eT eE
        by_cases hov : most < T + z
        · have LV : Hid (liv c most i = most - T) := Lib.hid (by unfold liv; rw [← ET.out, Z5.out, if_pos hov])
          have hl6 : IntsLie (wr.setCell ⟨w.heap.size + 1, i, none⟩ (.int .i64 (most - T))) (w.heap.size + 1) (fun t => if t < i + 1 then liv c most t else 0) n :=
            HL5.out.set_ hin (by rw [if_pos (by omega), LV.out]) (fun t ht => by
              by_cases h1 : t < i
              · rw [if_pos h1, if_pos (by omega)]
              · rw [if_neg h1, if_neg ht, if_neg (by omega)])
          have hz6 : (wr.setCell ⟨w.heap.size + 1, i, none⟩ (.int .i64 (most - T))).cell? ⟨w.heap.size + 1, i, none⟩ = some (.int .i64 (most - T)) := by
            rw [hl6.cell hin, if_pos (by omega), LV.out]
          have B6 : Hid (Below w.heap.size w (wr.setCell ⟨w.heap.size + 1, i, none⟩ (.int .i64 (most - T)))) := Lib.hid (HB5.out.setCell (by show w.heap.size ≤ w.heap.size + 1; omega) _)
          have k0 : Hid ((wr.setCell ⟨w.heap.size + 1, i, none⟩ (.int .i64 (most - T))).cell? ⟨w.heap.size, 0, none⟩ = some (.int .i64 (n : Int))) := Lib.hid (by rw [cell_far _ (by simp)]; exact c0)
          have k1 : Hid ((wr.setCell ⟨w.heap.size + 1, i, none⟩ (.int .i64 (most - T))).cell? ⟨w.heap.size, 1, none⟩ = some (.int .i64 (bb : Int))) := Lib.hid (by rw [cell_far _ (by simp)]; exact c1)
          have L6 := Lib.hid hl6
          clear hl6
          by_cases hl0 : most - T = 0
          · have d0 : (most - T == 0) = true := by simp [hl0]
            by_cases hih : i = hh
            · have d1 : ((i : Int) != (hh : Int)) = false := by simp [hih]
              have EN1 : Hid (emp c most hh (i + 1) = E) := Lib.hid (by rw [emp, if_neg (by rw [LV.out]; omega), EE.out])
              clear hl0 hih
              go_wp2
              clear hz6 hz hf c0 c1 d0 d1
              go_roundw
              case rel => exact ⟨i + 1, by omega, by go_num, by rw [tot_next, ← ET.out, LV.out], by rw [EN1.out], L6.out, k0.out, k1.out, B6.out⟩
              case measure => simp [intOf]; omega
            · have d1 : ((i : Int) != (hh : Int)) = true := by simp; omega
              have EN1 : Hid (emp c most hh (i + 1) = E + 1) := Lib.hid (by rw [emp, if_pos (by rw [LV.out]; omega), EE.out])
              clear hl0 hih
              go_wp2
              clear hz6 hz hf c0 c1 d0 d1
              go_roundw
              case rel => exact ⟨i + 1, by omega, by go_num, by rw [tot_next, ← ET.out, LV.out], by rw [EN1.out]; go_num, L6.out, k0.out, k1.out, B6.out⟩
              case measure => simp [intOf]; omega
          · have d0 : (most - T == 0) = false := by simp; omega
            have EN1 : Hid (emp c most hh (i + 1) = E) := Lib.hid (by rw [emp, if_neg (by rw [LV.out]; omega), EE.out])
            clear hl0
            go_wp2
            clear hz6 hz hf c0 c1 d0
            go_roundw
            case rel => exact ⟨i + 1, by omega, by go_num, by rw [tot_next, ← ET.out, LV.out], by rw [EN1.out], L6.out, k0.out, k1.out, B6.out⟩
            case measure => simp [intOf]; omega
        · have LV : Hid (liv c most i = z) := Lib.hid (by unfold liv; rw [← ET.out, Z5.out, if_neg hov])
          have L6 : Hid (IntsLie wr (w.heap.size + 1) (fun t => if t < i + 1 then liv c most t else 0) n) := Lib.hid (HL5.out.congr fun t ht => by
            by_cases h1 : t < i
            · rw [if_pos h1, if_pos (by omega)]
            · by_cases h2 : t = i
              · rw [if_neg h1, if_pos h2, if_pos (by omega), h2, LV.out]
              · rw [if_neg h1, if_neg h2, if_neg (by omega)])
          have k0 := Lib.hid c0
          have k1 := Lib.hid c1
          by_cases hl0 : z = 0
          · have d0 : (z == 0) = true := by simp [hl0]
            by_cases hih : i = hh
            · have d1 : ((i : Int) != (hh : Int)) = false := by simp [hih]
              have EN1 : Hid (emp c most hh (i + 1) = E) := Lib.hid (by rw [emp, if_neg (by rw [LV.out]; omega), EE.out])
              clear hl0 hih
              go_wp2
              clear hz hf c0 c1 d0 d1
              go_roundw
              case rel => exact ⟨i + 1, by omega, by go_num, by rw [tot_next, ← ET.out, LV.out], by rw [EN1.out], L6.out, k0.out, k1.out, HB5.out⟩
              case measure => simp [intOf]; omega
            · have d1 : ((i : Int) != (hh : Int)) = true := by simp; omega
              have EN1 : Hid (emp c most hh (i + 1) = E + 1) := Lib.hid (by rw [emp, if_pos (by rw [LV.out]; omega), EE.out])
              clear hl0 hih
              go_wp2
              clear hz hf c0 c1 d0 d1
              go_roundw
              case rel => exact ⟨i + 1, by omega, by go_num, by rw [tot_next, ← ET.out, LV.out], by rw [EN1.out]; go_num, L6.out, k0.out, k1.out, HB5.out⟩
              case measure => simp [intOf]; omega
          · have d0 : (z == 0) = false := by simp; omega
            have EN1 : Hid (emp c most hh (i + 1) = E) := Lib.hid (by rw [emp, if_neg (by rw [LV.out]; omega), EE.out])
            clear hl0
            go_wp2
            clear hz hf c0 c1 d0
            go_roundw
            case rel => exact ⟨i + 1, by omega, by go_num, by rw [tot_next, ← ET.out, LV.out], by rw [EN1.out], L6.out, k0.out, k1.out, HB5.out⟩
            case measure => simp [intOf]; omega
    · obtain rfl : i = n := by omega
      have hC0 : ∀ t, 0 ≤ liv c most t ∧ liv c most t ≤ (bb : Int) := fun t => liv_in hmost.1 HC.out t
      have hl5 : IntsLie wr (w.heap.size + 1) (liv c most) i := HL.out.congr fun t ht => by rw [if_pos ht]
      have hlv : Live (i : Int) (bb : Int) i (liv c most) := ⟨⟨by omega, by omega⟩, rfl, fun t _ => hC0 t⟩
      obtain ⟨v, e, pa, he⟩ : ∃ v e : Int, (∀ (W : World) (x y : Nat), Below wr.heap.size wr W → IntsAt W (some ⟨x, 0, none⟩) i (fun _ => 0) → IntsAt W (some ⟨y, 0, none⟩) 1 (fun _ => (hh : Int)) →
          Calls Try.prog 8 #[.agg #[.int .i64 (i : Int), .int .i64 (bb : Int)], .slice (some ⟨w.heap.size + 1, 0, none⟩) i i, .slice (some ⟨x, 0, none⟩) i i, .slice (some ⟨y, 0, none⟩) 1 1] W (Fresh (.tuple #[.int .i64 v, .int .i64 e]) W)) ∧
          (e = 0 ∨ (e = 4 ∧ 2 < emp c most hh i)) := by
        have hla : IntsAt wr (some ⟨w.heap.size + 1, 0, none⟩) i (liv c most) := hl5.ints fun t _ => by have := hC0 t; omega
        have hag : Ages i i (fun _ => 0) := ⟨rfl, fun _ _ => by omega⟩
        rcases pick_or (p := cand (liv c most) (fun _ => (hh : Int)) (bb : Int) 1) (X := overS (liv c most) (fun _ => 0) (bb : Int)) (Y := underS (liv c most) (bb : Int)) (n := i) (fun t ht => fit_of hlv ht (hag.num t ht)) with ⟨r, hr⟩ | hno
        · exact ⟨r, 0, fun W x y hW hx hy => pick_ok i i 1 W hlv hag (hla.below hW) hx hy (by omega) hr, .inl rfl⟩
        · refine ⟨0, 4, fun W x y hW hx hy => pick_none i i 1 W hlv hag (hla.below hW) hx hy (by omega) hno, .inr ⟨rfl, ?_⟩⟩
          apply Nat.lt_of_not_le
          intro h2
          obtain ⟨t, h3, h4, h5, h6⟩ := found (c := c) (most := most) (b := (bb : Int)) (h := hh) (n := i) (by omega) hn1 EM.out.symm HC.out h2
          exact hno t h3 (cand_yes (by rw [isIn, isIn, decide_eq_false (by omega)]; rfl) h5 h6)
      have PA := Lib.hid pa
      have HE := Lib.hid he
      obtain ⟨E, eE⟩ : ∃ E, E = emp c most hh i := ⟨_, rfl⟩
      rw [← eE]
      rw [← eE] at HE
      have hmk := make_ints i (by omega)
      clear pa he hl5 hlv hC0 eE HL HC EC EM
      have hc1 := PA.out _ _ _ (ahead_below wr i hh) (ahead_zeros wr i hh) (ahead_head wr i hh hh3)
      have hc2 := PA.out _ _ _ (behind_below wr i hh) (behind_zeros wr i hh) (behind_head wr i hh hh3)
      have hr : ∀ W w3, Below wr.heap.size wr W → Below W.heap.size W w3 → Hid (Below w.heap.size w w3) := fun W w3 h1 h2 => Lib.hid (HB.out.trans ((h1.trans (h2.mono h1.size)).mono HB.out.size))
      have HC1 := Lib.hid hc1
      have HC2 := Lib.hid hc2
      have HR := Lib.hid hr
      have a0 := fun (o : Obj) => cell_later (boxed wr o) c0
      have a1 := fun (o : Obj) => cell_later (boxed wr o) c1
      have e0 := fun (o o' : Obj) => cell_later (boxed (wr.alloc o) o') (cell_later (boxed wr o) c0)
      have e1 := fun (o o' : Obj) => cell_later (boxed (wr.alloc o) o') (cell_later (boxed wr o) c1)
      clear hc1 hc2 hr PA
      go_upto_region 16 with (fail)
      go_cut [17] (fun s17 wx => s17 = .int .i64 e ∧ Below w.heap.size w wx)
      case first =>
        go_region_with (go_at_call 8; first | ((with_reducible refine HC1.out.mono ?_); rintro e9 w3 ⟨rfl, hb3⟩) | ((with_reducible refine HC2.out.mono ?_); rintro e9 w3 ⟨rfl, hb3⟩))
        all_goals
          go_wp2
          go_meet
          first | exact ⟨rfl, (HR.out _ _ (ahead_below wr i hh) hb3).out⟩ | exact ⟨rfl, (HR.out _ _ (behind_below wr i hh) hb3).out⟩
      case rest =>
        obtain ⟨rfl, hb3⟩ := hcut
        have B3 := Lib.hid hb3
        clear hb3 a0 a1 e0 e1 hmk HC1 HC2 HR
        by_cases hE : 2 < E
        · have hE2 : (2 : Int) < (E : Int) := by omega
          rcases HE.out with rfl | ⟨rfl, _⟩
          all_goals
            go_wp2_with fail
            refine (awake_any _).mono ?_
            rintro e9 w4 ⟨rfl, hb⟩
            have B4 : Hid (Below w.heap.size w w4) := Lib.hid (B3.out.trans (hb.mono B3.out.size))
            clear hb
            go_wp2
            go_ret
            exact ⟨rfl, B4.out⟩
        · have hE2 : ¬ (2 : Int) < (E : Int) := by omega
          obtain rfl : e = 0 := by
            rcases HE.out with h | ⟨_, h⟩
            · exact h
            · exact absurd h hE
          go_wp2_with fail
          refine (awake_any _).mono ?_
          rintro e9 w4 ⟨rfl, hb⟩
          have B4 : Hid (Below w.heap.size w w4) := Lib.hid (B3.out.trans (hb.mono B3.out.size))
          clear hb
          go_wp2
          go_ret
          exact ⟨rfl, B4.out⟩

set_option linter.unusedVariables false in
theorem walk (w : World) (a0 : Int) (w0 : (Lit.int .u8 a0).wf = true) (a1 : Int) (w1 : (Lit.int .u8 a1).wf = true) (A2 : Option Addr) (n2 c2 : Nat) (Z2 : List Int) (s2 : IntsIn w .u8 A2 n2 c2 Z2) (r2 : n2 * 1 ≤ 140737488351232) (a3 : Int) (w3 : (Lit.int .u8 a3).wf = true) :
    Calls Try.prog 6 #[.int .u8 a0, .int .u8 a1, .slice A2 n2 c2, .int .u8 a3] w (Fresh (.bool true) w) := by
  have z0 := u8_in w0
  have z1 := u8_in w1
  have z3 := u8_in w3
  obtain ⟨sg, rfl⟩ := Int.eq_ofNat_of_zero_le z0.1
  obtain ⟨bl, rfl⟩ := Int.eq_ofNat_of_zero_le z1.1
  obtain ⟨hd, rfl⟩ := Int.eq_ofNat_of_zero_le z3.1
  exact text (n := 6 + sg % 19) (bb := 2 + bl % 15) (hh := hd % (6 + sg % 19)) w (by omega) (by omega) (by omega) (by omega) (by omega) rfl (bytes_in s2) (by have := s2.cap; have := s2.most; omega)

/-! ### the law's end -/
set_option linter.unusedVariables false
theorem own : ownKnob Try.prog.godebug = none := by kernel_rfl
theorem laidOut : laidOutB Try.prog = true := by kernel_rfl
set_option maxRecDepth 100000 in

theorem lifted (os : Os) (started : os.Started) (H : Type) (enc : TypeId × Value → H) :
    ReturnsInHanded {} Try.checked os 6 .any (Rows.chooserSpreadSpec.pre6 enc Try.prog Try.f6 Rows.chooserSpreadRow.domain false) (Rows.chooserSpreadSpec.post enc Try.prog Try.f6 false true false false) := by
  refine returnsInHanded_of_change_sized (C := Try.checked) own started (by kernel_rfl) Try.func6
    (ChangeSpec.witness6 (enc := enc) (C := Try.checked) false ⟨#[], #[.int .u8 0, .int .u8 0, .slice none 0 0, .int .u8 0], []⟩ 8 (by kernel_rfl) (by kernel_rfl) (by kernel_rfl) (by kernel_rfl)) ?_
  intro W base args ds gs before hval0 hW _ hsz0 _
  have hsz : (DataW.weightsEach Try.prog (Try.f6.params.toList ++ Rows.chooserSpreadSpec.plain.varTypes Try.prog) (ds ++ gs)).all (· ≤ reachBytes) = true := hsz0
  clear hsz0
  have hval : ∀ (j : Nat) t v, Try.f6.params[j]? = some t → args[j]? = some v → Value.okWide Try.prog W .any base t v := hval0
  have hW' := hW
  obtain ⟨p, q, hA0, hV, rfl, _, _⟩ := hW
  have hA : DataW.TrodAll enc Try.prog W 0 (fun _ => true) true Try.f6.params.toList args.toList ds p := hA0
  rw [Try.params6] at hA hval hsz
  obtain ⟨v0, vs0, d0, ds0, p0, q0, hargs, rfl, rfl, h0, u0⟩ := trodAll_cons hA
  obtain ⟨v1, vs1, d1, ds1, p1, q1, rfl, rfl, rfl, h1, u1⟩ := trodAll_cons u0
  obtain ⟨v2, vs2, d2, ds2, p2, q2, rfl, rfl, rfl, h2, u2⟩ := trodAll_cons u1
  obtain ⟨v3, vs3, d3, ds3, p3, q3, rfl, rfl, rfl, h3, u3⟩ := trodAll_cons u2
  obtain ⟨rfl, rfl, rfl⟩ := trodAll_nil u3
  obtain rfl : args = #[v0, v1, v2, v3] := by cases args; simp_all
  obtain ⟨rfl, rfl⟩ := trodVars_none hV
  clear hA0 hval0
  have k0 := h0
  obtain ⟨a0, rfl, rfl, rfl, w0⟩ := open_int Try.underlying5 (hval 0 5 v0 rfl rfl) h0
  have k1 := h1
  obtain ⟨a1, rfl, rfl, rfl, w1⟩ := open_int Try.underlying5 (hval 1 5 v1 rfl rfl) h1
  obtain ⟨A2, n2, c2, rfl⟩ := okWide_slice Try.underlying34 (hval 2 34 v2 rfl rfl)
  have k2 := h2
  obtain ⟨Z2, s2, z2⟩ := view_ints Try.underlying34 Try.underlying5 (by kernel_rfl) h2
  have r2 := reach_of (b := 1) hsz (j := 2) (t := 34) (e := 5) rfl rfl Try.underlying34 (by kernel_rfl) z2
  have k3 := h3
  obtain ⟨a3, rfl, rfl, rfl, w3⟩ := open_int Try.underlying5 (hval 3 5 v3 rfl rfl) h3
  simp only [List.append_nil] at hW'
  have hlt : ∀ x ∈ p2, x.block < W.heap.size := fun x hx => by simpa using hW'.lt x (by simpa using hx)
  refine (walk W a0 w0 a1 w1 A2 n2 c2 Z2 s2 r2 a3 w3).mono fun e W' ⟨he, hb⟩ => ?_
  subst he
  exact ⟨_, rfl, _, _, _, [], _, [], hW', (trodAll_cons_mk (shut_bool Try.underlying4 _) trodAll_mk0), (trodAll_cons_mk (Below.trod laidOut (by kernel_rfl) (of_decide_eq_true (by kernel_rfl)) k0 hb (fun x hx => (by cases hx))) (trodAll_cons_mk (Below.trod laidOut (by kernel_rfl) (of_decide_eq_true (by kernel_rfl)) k1 hb (fun x hx => (by cases hx))) (trodAll_cons_mk (Below.trod laidOut (by kernel_rfl) (of_decide_eq_true (by kernel_rfl)) k2 hb (fun x hx => hlt x (by simp [hx]))) (trodAll_cons_mk (Below.trod laidOut (by kernel_rfl) (of_decide_eq_true (by kernel_rfl)) k3 hb (fun x hx => (by cases hx))) trodAll_mk0)))), rfl, hb.frame _, fun h => by cases h⟩

theorem over : Rows.chooserSpreadRow.holds Try.pinned (OpenSpec.ofChange Rows.chooserSpreadSpec) :=
  OpenClaim.holds_of_wide 6 Try.f6 rfl rfl rfl rfl rfl rfl rfl ⟨rfl, rfl, rfl, rfl, rfl⟩ rfl rfl rfl rfl rfl (by kernel_rfl) Try.func6 (by kernel_rfl)
    (of_decide_eq_true (by kernel_rfl)) (by unfold Func.isWrapper; first | (rw [if_pos (by decide +kernel)]; kernel_rfl) | (rw [if_neg (by decide +kernel)]; exact ⟨rfl, rfl⟩))
    (fun os started H enc _ => lifted os started H enc)

theorem proved : Rows.ChooserSpreadSaid := over
#print axioms proved
end Go.Proofs.Ytiolhdilfjomcaa.chooserSpread
